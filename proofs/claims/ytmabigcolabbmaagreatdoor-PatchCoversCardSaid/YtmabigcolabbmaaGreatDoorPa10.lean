/- Texts that the next ones stand on: Patch5, Patch7, LaysL, SortedL, BinL, Patch8, CoverMath, Cover1, Cover2, Patch6, Patch2, Cover3, AppNone. -/
import Derived.Test.YtmabigcolabbmaaGreatDoorPa9
import Derived.Test.YtmabigcolabbmaaGreatDoorProg
import Derived.Shelf.SlSortCmp.WholeK
import Derived.Laws.EntriesVeiled
import Derived.Laws.AppendOwnNone
namespace Go.Proofs.YtmabigcolabbmaaGreatDoor
open Go Go.RowKit Go.Sort Go.Lib

theorem AtI.take {n0 : Nat} {w : World} {ao : Option Addr} {cap c : Nat} {L : List Itm} (h : AtI n0 w (.slice ao L.length cap) L) (hc : c ≤ L.length) : AtI n0 w (.slice ao c cap) (L.take c) := by
  obtain ⟨ao', cap', e, h2⟩ := h
  injection e with e1 e2 e3
  subst e1
  have hl : (L.take c).length = c := by rw [List.length_take]; omega
  refine ⟨ao, cap, by rw [hl], fun i hi => ?_⟩
  rw [hl] at hi
  obtain ⟨g, o, cur, x1, x2, x3, x4, x5⟩ := h2 i (by omega)
  refine ⟨g, o, cur, x1, x2, x3, x4, ?_⟩
  rw [x5, List.getD_eq_getElem?_getD, List.getD_eq_getElem?_getD, List.getElem?_take, if_pos hi]
theorem AtI.drop {n0 : Nat} {w : World} {g o cap c : Nat} {L : List Itm} (h : AtI n0 w (.slice (some ⟨g, o, none⟩) L.length cap) L) (hc : c ≤ L.length) : AtI n0 w (.slice (some ⟨g, o + c * 66, none⟩) (L.length - c) (cap - c)) (L.drop c) := by
  obtain ⟨ao', cap', e, h2⟩ := h
  injection e with e1 e2 e3
  subst e1
  have hl : (L.drop c).length = L.length - c := List.length_drop
  refine ⟨_, _, by rw [hl], fun i hi => ?_⟩
  rw [hl] at hi
  obtain ⟨g', o', cur, x1, x2, x3, x4, x5⟩ := h2 (c + i) (by omega)
  cases x1
  refine ⟨_, _, cur, rfl, x2, x3, by omega, ?_⟩
  rw [show o + c * 66 + i * 66 = o + (c + i) * 66 by omega, x5, List.getD_eq_getElem?_getD, List.getD_eq_getElem?_getD, List.getElem?_drop]

set_option maxRecDepth 100000 in
set_option maxHeartbeats 4000000 in
theorem paWhole_any : ∀ (f : Nat) (L : List Itm) (ao : Option Addr) (cap : Nat) (w : World), L.length ≤ f → 0 < L.length → RiseI L → L.length ≤ 1000000 → L.length ≤ cap → cap ≤ maxLen → Cubes w → AtI w.heap.size w (.slice ao L.length cap) L →
    Calls Tryz.prog 34 #[.slice ao L.length cap] w fun e w' => e = .returned (.agg (cellsI (wholeF f L))) ∧ Below w.heap.size w w' := by
  intro f
  induction f with
  | zero => intro L ao cap w h1 h2; omega
  | succ f ih =>
    intro L ao cap w hf h0 hr hL hcap hmax ht hA
    obtain ⟨m, hm⟩ : ∃ m, L.length = m := ⟨_, rfl⟩
    have HM : Hid (L.length = m) := hm
    have b0 : Below w.heap.size w (w.alloc (.cells (cellsI zeroItm) 68)) := (Below.refl _ _).alloc (Nat.le_refl _) _
    have r0 : rowAt (w.alloc (.cells (cellsI zeroItm) 68)) w.heap.size = some (cellsI zeroItm) := rowAt_alloc_at _ _ _ _ rfl
    have hA1 : AtI w.heap.size (w.alloc (.cells (cellsI zeroItm) 68)) (.slice ao L.length cap) L := hA.below (Nat.le_refl _) b0
    have t1 := ht.below b0
    have hsz : w.heap.size < (w.alloc (.cells (cellsI zeroItm) 68)).heap.size := by rw [World.size_alloc]; omega
    obtain ⟨_, _, e0, hA2⟩ := hA1
    injection e0 with e1 e2 e3
    subst e1
    obtain ⟨g, o, c0, rfl, hg, hr0, hs0, hx0⟩ := hA2 0 h0
    have hA1 : AtI w.heap.size (w.alloc (.cells (cellsI zeroItm) 68)) (.slice (some ⟨g, o, none⟩) L.length cap) L := hA.below (Nat.le_refl _) b0
    rw [Nat.zero_mul, Nat.add_zero] at hx0
    have s0 : o + 66 ≤ c0.size := by omega
    by_cases h1 : L.length = 1
    · have hv : wholeF (f + 1) L = L.getD 0 zeroItm := by rw [wholeF, if_pos h1]
      rw [hv, h1]
      generalize L.getD 0 zeroItm = X at *
      clear hA2 hA1 hA ih hr hf hL hm HM hv e2 e3 t1 ht hs0
      go_enter Tryz.func34, Tryz.ntmps34
      go_wp2_with fail
      exact row_ret_item rfl rfl rfl (rowAt_alloc_at _ _ _ _ rfl) ⟨rfl, (Below.refl _ _).alloc (Nat.le_refl _) _⟩
    · have h2 : 2 ≤ L.length := by omega
      have AW : AtI (w.alloc (.cells (cellsI zeroItm) 68)).heap.size (w.alloc (.cells (cellsI zeroItm) 68)) (.slice (some ⟨g, o, none⟩) L.length cap) L := hA1.below (Nat.le_of_lt hsz) (Below.refl _ _)
      have HF := Lib.hid (paFork_any (.slice (some ⟨g, o, none⟩) L.length cap) L h0 hL (fork_mono hr) (w.alloc (.cells (cellsI zeroItm) 68)) AW)
      have HR := Lib.hid hr
      have HIH := Lib.hid ih
      have H1 := Lib.hid h1
      have HT := Lib.hid t1
      have HA := Lib.hid AW
      have hm1 : (m : Int) ≤ 1000000 := by omega
      have hmn : ¬ m = 1 := by omega
      have hmi : ¬ (m : Int) = 1 := by omega
      have hcm : m ≤ cap := by omega
      rw [hm] at HF hf h2
      rw [hm]
      clear hA2 hA1 hA ih hr hL HM e2 e3 t1 ht hs0 hx0 s0 hr0 AW h1 h0 hcap
      generalize hV : wholeF (f + 1) L = V
      go_enter Tryz.func34, Tryz.ntmps34
      go_wp2_with fail
      generalize w.alloc (.cells (cellsI zeroItm) 68) = W at *
      refine HF.out.mono ?_
      rintro e w2 ⟨⟨c, rfl, hc⟩, b2⟩
      obtain ⟨hc0, hcl⟩ := hc.inside HR.out (by rw [hm]; exact h2)
      have hcC := hc.eq
      have b3 := below_past b0 b2 b0.size
      have A2 := AtI.below (HA.out.below (Nat.le_refl _) b2) b2.size (Below.refl _ _)
      have T2 := Lib.hid (HT.out.below b2)
      have r2 := rowAt_past b2 r0
      have AL := A2.take (Nat.le_of_lt hcl)
      have AR := A2.drop (Nat.le_of_lt hcl)
      have hlT : (L.take c).length = c := by rw [List.length_take]; omega
      have hlD : (L.drop c).length = m - c := by rw [List.length_drop, hm]
      rw [hm] at hcl AR
      have hv : wholeF (f + 1) L = innerI (wholeF f (L.take c)) (wholeF f (L.drop c)) := by rw [wholeF, if_neg H1.out, ← hcC]
      have HL : Hid (∀ x : Past w2, Calls Tryz.prog 34 #[.slice (some ⟨g, o, none⟩) c cap] x.w fun e w' => e = .returned (.agg (cellsI (wholeF f (L.take c)))) ∧ Below x.w.heap.size x.w w') := fun x => by
        have := HIH.out (L.take c) (some ⟨g, o, none⟩) cap x.w (by omega) (by omega) (List.Pairwise.sublist (List.take_sublist c L) HR.out) (by omega) (by omega) hmax (T2.out.below x.h) (by rw [hlT]; exact AtI.below (AL.below (Nat.le_refl _) x.h) x.h.size (Below.refl _ _))
        rw [hlT] at this
        exact this
      have HD : Hid (∀ x : Past w2, Calls Tryz.prog 34 #[.slice (some ⟨g, o + c * 66, none⟩) (m - c) (cap - c)] x.w fun e w' => e = .returned (.agg (cellsI (wholeF f (L.drop c)))) ∧ Below x.w.heap.size x.w w') := fun x => by
        have := HIH.out (L.drop c) (some ⟨g, o + c * 66, none⟩) (cap - c) x.w (by omega) (by omega) (List.Pairwise.sublist (List.drop_sublist c L) HR.out) (by omega) (by omega) (by omega) (T2.out.below x.h) (by rw [hlD]; exact AtI.below (AR.below (Nat.le_refl _) x.h) x.h.size (Below.refl _ _))
        rw [hlD] at this
        exact this
      have hV2 : innerI (wholeF f (L.take c)) (wholeF f (L.drop c)) = V := hv.symm.trans hV
      clear hv hV
      generalize wholeF f (L.take c) = X1 at HL hV2
      generalize wholeF f (L.drop c) = X2 at HD hV2
      have HI : Hid (∀ x : Past w2, Calls Tryz.prog 55 #[.agg (cellsN X1 X2)] x.w fun e w' => e = .returned (.agg (cellsI V)) ∧ Below x.w.heap.size x.w w') := fun x => by
        rw [← hV2]
        exact nInnerItem_any X1 X2 x.w (T2.out.below x.h)
      clear hV2
      have hci : (c : Int) ≤ m := by omega
      have hcc : (c : Int) ≤ cap := by omega
      have hcp : c ≤ cap := by omega
      have hcm2 : c ≤ m := by omega
      clear hc hcC b0 b2 A2 AL AR hlT hlD HIH H1 HT HA HR HF r0 T2 hf
      go_wp2_with fail
      refine wp_region_tok [] 10 (fun _ _ _ => True) (by kernel_rfl) (by kernel_rfl) (by intro i hi; cases hi) ?_
      intro τ hτ
      clear hτ
      simp only [List.take_succ_cons, List.take_zero]
      iterate 3 (refine tokL_val (by decide) (by kernel_rfl) rfl ?_; intro K hK; go_big_quiet_op; go_big_quiet_on)
      refine tokL_call (by decide) (by kernel_rfl) (by kernel_rfl) ?_
      apply Exists.intro
      refine And.intro ?_ ?_
      focus
        intro x hg
        unfold Oper.quietAt
        go_simp
        (exact call_yields (HL.out x))
      simp only [Act.put, List.setIfInBounds_toArray, List.set_cons_succ, List.set_cons_zero]
      iterate 3 (refine tokL_val (by decide) (by kernel_rfl) rfl ?_; intro K hK; go_big_quiet_op; go_big_quiet_on)
      refine tokL_call (by decide) (by kernel_rfl) (by kernel_rfl) ?_
      apply Exists.intro
      refine And.intro ?_ ?_
      focus
        intro x hg
        unfold Oper.quietAt
        go_simp
        (exact call_yields (HD.out x))
      simp only [Act.put, List.setIfInBounds_toArray, List.set_cons_succ, List.set_cons_zero]
      iterate 1 (refine tokL_val (by decide) (by kernel_rfl) rfl ?_; intro K hK; go_big_quiet_op; go_big_quiet_on)
      refine tokL_call (by decide) (by kernel_rfl) (by kernel_rfl) ?_
      apply Exists.intro
      refine And.intro ?_ ?_
      focus
        intro x hg
        unfold Oper.quietAt
        go_simp
        (exact call_yields (HI.out x))
      simp only [Act.put, List.setIfInBounds_toArray, List.set_cons_succ, List.set_cons_zero]
      refine tokL_nil ?_
      simp only [List.drop_succ_cons, List.drop_zero]
      intro z hz
      have b4 := below_past b3 hz.1 b3.size
      have r4 := rowAt_past hz.1 r2
      clear hz b3 r2 HL HD HI
      go_wp2_with fail
      exact row_ret_item rfl rfl rfl (rowAt_setRow_same r4 _) ⟨rfl, Below.setRow b4 (Nat.le_refl _) _⟩
end Go.Proofs.YtmabigcolabbmaaGreatDoor
namespace Go.Proofs.YtmabigcolabbmaaGreatDoor
open Go Go.RowKit Go.Sort Go.Lib

theorem ext_pre {c : Array Value} {s : Nat} {x : Itm} (hx : c.extract s (s + 66) = cellsI x) : c.extract s (s + 33) = cellsP x.n x.b := by
  have := ext_ext c s 0 33 66 (by decide)
  rw [hx, extract_I0, Nat.add_zero] at this
  exact this.symm
def overL (L : List Itm) : Int × Lab := if L.length = 1 then ((L.getD 0 zeroItm).n, (L.getD 0 zeroItm).b) else (min (max (commonL L : Int) 0) 256, cut (L.getD 0 zeroItm).b (commonL L))
set_option maxRecDepth 100000 in
set_option maxHeartbeats 2000000 in
theorem paOver_any (L : List Itm) (ao : Option Addr) (cap : Nat) (w : World) (h0 : 0 < L.length) (hL : L.length ≤ 1000000) (hA : AtI w.heap.size w (.slice ao L.length cap) L) :
    Calls Tryz.prog 46 #[.slice ao L.length cap] w fun e w' => e = .returned (.agg (cellsP (overL L).1 (overL L).2)) ∧ Below w.heap.size w w' := by
  have b0 : Below w.heap.size w (w.alloc (.cells (cellsP 0 zeroLab) 66)) := (Below.refl _ _).alloc (Nat.le_refl _) _
  have r0 : rowAt (w.alloc (.cells (cellsP 0 zeroLab) 66)) w.heap.size = some (cellsP 0 zeroLab) := rowAt_alloc_at _ _ _ _ rfl
  have hA1 : AtI w.heap.size (w.alloc (.cells (cellsP 0 zeroLab) 66)) (.slice ao L.length cap) L := hA.below (Nat.le_refl _) b0
  have hsz : w.heap.size < (w.alloc (.cells (cellsP 0 zeroLab) 66)).heap.size := by rw [World.size_alloc]; omega
  obtain ⟨_, _, e0, hA2⟩ := hA1
  injection e0 with e1 e2 e3
  subst e1
  obtain ⟨g, o, c, rfl, hg, hr, hs, hx⟩ := hA2 0 h0
  have AW : AtI (w.alloc (.cells (cellsP 0 zeroLab) 66)).heap.size (w.alloc (.cells (cellsP 0 zeroLab) 66)) (.slice (some ⟨g, o, none⟩) L.length cap) L := AtI.below (hA.below (Nat.le_refl _) b0) (Nat.le_of_lt hsz) (Below.refl _ _)
  rw [Nat.zero_mul, Nat.add_zero] at hx
  have f0 := ext_pre hx
  have f1 := ext_b hx
  have s0 : o + 33 ≤ c.size := by omega
  have s1 : o + 1 + 32 ≤ c.size := by omega
  obtain ⟨m, hm⟩ : ∃ m, L.length = m := ⟨_, rfl⟩
  obtain ⟨T, hT⟩ : ∃ T, overL L = T := ⟨_, rfl⟩
  have hm1 : (m : Int) ≤ 1000000 := by omega
  by_cases h1 : L.length = 1
  · have hv : T = ((L.getD 0 zeroItm).n, (L.getD 0 zeroItm).b) := by rw [← hT, overL, if_pos h1]
    rw [hT, hv, h1]
    generalize L.getD 0 zeroItm = X at *
    clear hA2 hA AW hs hx f1 s1 e2 e3 hT hv hm hm1
    go_enter Tryz.func46, Tryz.ntmps46
    go_wp2_with fail
    exact row_ret_pre rfl rfl rfl (rowAt_alloc_at _ _ _ _ rfl) ⟨rfl, (Below.refl _ _).alloc (Nat.le_refl _) _⟩
  · have hv : T = (min (max (commonL L : Int) 0) 256, cut (L.getD 0 zeroItm).b (commonL L)) := by rw [← hT, overL, if_neg h1]
    have hmi : ¬ (m : Int) = 1 := by omega
    have hmn : ¬ m = 1 := by omega
    have h0' : (0 : Int) < m := by omega
    have HC : Hid (∀ x : Past (w.alloc (.cells (cellsP 0 zeroLab) 66)), Calls Tryz.prog 78 #[.slice (some ⟨g, o, none⟩) L.length cap] x.w fun e w' => e = .returned (.int .i64 (commonL L)) ∧ Below x.w.heap.size x.w w') := fun x => paCommon_any _ L h0 hL x.w (AtI.below (AW.below (Nat.le_refl _) x.h) x.h.size (Below.refl _ _))
    have HU : Hid (∀ w, Calls Tryz.prog 77 #[.agg (cellsL (L.getD 0 zeroItm).b), .int .i64 (commonL L)] w fun e w' => e = .returned (.agg (cellsP T.1 T.2)) ∧ Below w.heap.size w w') := fun w => by
      rw [hv]
      exact Cut_any (L.getD 0 zeroItm).b (commonL L) w
    have fa := fun x : Past (w.alloc (.cells (cellsP 0 zeroLab) 66)) => rowAt_past x.h hr
    rw [hT]
    rw [hm] at HC ⊢
    generalize L.getD 0 zeroItm = X at *
    generalize hN : (commonL L : Int) = N at HC HU
    clear hA2 hA AW hs hx f0 s0 e2 e3 hT hv hm hr h0 hN
    go_enter Tryz.func46, Tryz.ntmps46
    go_wp2_with fail
    generalize w.alloc (.cells (cellsP 0 zeroLab) 66) = W at *
    refine wp_region_tok [] 8 (fun _ _ _ => True) (by kernel_rfl) (by kernel_rfl) (by intro i hi; cases hi) ?_
    intro τ hτ
    clear hτ
    simp only [List.take_succ_cons, List.take_zero]
    iterate 6 (refine tokL_val (by decide) (by kernel_rfl) rfl ?_; intro K hK; go_big_quiet_op; go_big_quiet_on)
    refine tokL_call (by decide) (by kernel_rfl) (by kernel_rfl) ?_
    apply Exists.intro
    refine And.intro ?_ ?_
    focus
      intro x hg
      unfold Oper.quietAt
      go_simp
      (exact call_yields (HC.out x))
    simp only [Act.put, List.setIfInBounds_toArray, List.set_cons_succ, List.set_cons_zero]
    refine tokL_call (by decide) (by kernel_rfl) (by kernel_rfl) ?_
    apply Exists.intro
    refine And.intro ?_ ?_
    focus
      intro x hg
      unfold Oper.quietAt
      go_simp
      (exact call_yields (HU.out _))
    simp only [Act.put, List.setIfInBounds_toArray, List.set_cons_succ, List.set_cons_zero]
    refine tokL_nil ?_
    simp only [List.drop_succ_cons, List.drop_zero]
    intro z hz
    have b4 := below_past b0 hz.1 b0.size
    have r4 := rowAt_past hz.1 r0
    clear hz b0 r0 HC HU fa
    go_wp2_with fail
    exact row_ret_pre rfl rfl rfl (rowAt_setRow_same r4 _) ⟨rfl, Below.setRow b4 (Nat.le_refl _) _⟩
end Go.Proofs.YtmabigcolabbmaaGreatDoor
namespace Go.Proofs.YtmabigcolabbmaaGreatDoor
open Go Go.Shelf Go.RowKit Go.Lib Go.Sort

def renL : Ren := ⟨fun f => match f with | 6 => 102 | 14 => 117 | 15 => 118 | 20 => 125 | 21 => 126 | 22 => 127 | 23 => 128 | 24 => 129 | 25 => 130 | 26 => 131 | 27 => 132 | 28 => 133 | 29 => 134 | 46 => 138 | 47 => 139 | 48 => 140 | 49 => 141 | 50 => 142 | 57 => 144 | _ => 0, fun t => match t with | 0 => 0 | 3 => 3 | 4 => 4 | 5 => 5 | 9 => 9 | 22 => 39 | 25 => 71 | 39 => 142 | 45 => 170 | 46 => 171 | 50 => 122 | 53 => 100 | 55 => 141 | 66 => 178 | 70 => 182 | 76 => 184 | 77 => 185 | 24 => 27 | _ => 0, fun x => x⟩
theorem laysL : SlLaysF0.n6 Tryz.prog renL where
  mixed := by kernel_rfl
  f6 := ⟨Tryz.f102.name, by kernel_rfl, Tryz.func102.trans (congrArg some (by kernel_rfl))⟩
  f14 := ⟨Tryz.f117.name, by kernel_rfl, Tryz.func117.trans (congrArg some (by kernel_rfl))⟩
  f15 := Tryz.func118.trans (congrArg some (by kernel_rfl))
  f20 := ⟨Tryz.f125.name, by kernel_rfl, Tryz.func125.trans (congrArg some (by kernel_rfl))⟩
  f21 := ⟨Tryz.f126.name, by kernel_rfl, Tryz.func126.trans (congrArg some (by kernel_rfl))⟩
  f22 := ⟨Tryz.f127.name, by kernel_rfl, Tryz.func127.trans (congrArg some (by kernel_rfl))⟩
  f23 := ⟨Tryz.f128.name, by kernel_rfl, Tryz.func128.trans (congrArg some (by kernel_rfl))⟩
  f24 := ⟨Tryz.f129.name, by kernel_rfl, Tryz.func129.trans (congrArg some (by kernel_rfl))⟩
  f25 := ⟨Tryz.f130.name, by kernel_rfl, Tryz.func130.trans (congrArg some (by kernel_rfl))⟩
  f26 := ⟨Tryz.f131.name, by kernel_rfl, Tryz.func131.trans (congrArg some (by kernel_rfl))⟩
  f27 := ⟨Tryz.f132.name, by kernel_rfl, Tryz.func132.trans (congrArg some (by kernel_rfl))⟩
  f28 := Tryz.func133.trans (congrArg some (by kernel_rfl))
  f29 := Tryz.func134.trans (congrArg some (by kernel_rfl))
  f46 := ⟨Tryz.f138.name, by kernel_rfl, Tryz.func138.trans (congrArg some (by kernel_rfl))⟩
  f47 := Tryz.func139.trans (congrArg some (by kernel_rfl))
  f48 := Tryz.func140.trans (congrArg some (by kernel_rfl))
  f49 := ⟨Tryz.f141.name, by kernel_rfl, Tryz.func141.trans (congrArg some (by kernel_rfl))⟩
  f50 := ⟨Tryz.f142.name, by kernel_rfl, Tryz.func142.trans (congrArg some (by kernel_rfl))⟩
  f57 := ⟨Tryz.f144.name, by kernel_rfl, Tryz.func144.trans (congrArg some (by kernel_rfl))⟩
  t0 := Tryz.underlying0
  a0 := fun w => by kernel_rfl
  z0 := fun w => by kernel_rfl
  v0 := fun w => by kernel_rfl
  t3 := Tryz.underlying3
  a3 := fun w => by kernel_rfl
  z3 := fun w => by kernel_rfl
  v3 := fun w => by kernel_rfl
  t4 := Tryz.underlying4
  a4 := fun w => by kernel_rfl
  z4 := fun w => by kernel_rfl
  v4 := fun w => by kernel_rfl
  t5 := Tryz.underlying5
  a5 := fun w => by kernel_rfl
  z5 := fun w => by kernel_rfl
  v5 := fun w => by kernel_rfl
  t9 := Tryz.underlying9
  a9 := fun w => by kernel_rfl
  z9 := fun w => by kernel_rfl
  v9 := fun w => by kernel_rfl
  t22 := Tryz.underlying39
  a22 := fun w => by kernel_rfl
  z22 := fun w => by kernel_rfl
  v22 := fun w => by kernel_rfl
  t25 := Tryz.underlying71
  a25 := fun w => by kernel_rfl
  z25 := fun w => by kernel_rfl
  v25 := fun w => by kernel_rfl
  t39 := Tryz.underlying142
  a39 := fun w => by kernel_rfl
  z39 := fun w => by kernel_rfl
  v39 := fun w => by kernel_rfl
  t45 := Tryz.underlying170
  a45 := fun w => by kernel_rfl
  z45 := fun w => by kernel_rfl
  v45 := fun w => by kernel_rfl
  t46 := Tryz.underlying171
  a46 := fun w => by kernel_rfl
  z46 := fun w => by kernel_rfl
  v46 := fun w => by kernel_rfl
  t50 := Tryz.underlying122
  a50 := fun w => by kernel_rfl
  z50 := fun w => by kernel_rfl
  v50 := fun w => by kernel_rfl
  t53 := Tryz.underlying100
  a53 := fun w => by kernel_rfl
  z53 := fun w => by kernel_rfl
  v53 := fun w => by kernel_rfl
  t55 := Tryz.underlying141
  a55 := fun w => by kernel_rfl
  z55 := fun w => by kernel_rfl
  v55 := fun w => by kernel_rfl
  t66 := Tryz.underlying178
  a66 := fun w => by kernel_rfl
  z66 := fun w => by kernel_rfl
  v66 := fun w => by kernel_rfl
  t70 := Tryz.underlying182
  a70 := fun w => by kernel_rfl
  z70 := fun w => by kernel_rfl
  v70 := fun w => by kernel_rfl
  t76 := Tryz.underlying184
  a76 := fun w => by kernel_rfl
  z76 := fun w => by kernel_rfl
  v76 := fun w => by kernel_rfl
  t77 := Tryz.underlying185
  a77 := fun w => by kernel_rfl
  z77 := fun w => by kernel_rfl
  v77 := fun w => by kernel_rfl
end Go.Proofs.YtmabigcolabbmaaGreatDoor
namespace Go.Proofs.YtmabigcolabbmaaGreatDoor
open Go Go.Shelf Go.RowKit Go.Lib Go.Sort

theorem eg_order : ∀ args w, (callFunc 42 args).run Tryz.prog w = .ok (.enter 42 args) w := enters_of Tryz.func42 (by kernel_rfl) rfl
theorem cmp_labels : CmpL 42 #[] order := fun w x y => order_far x y w
theorem weakL : Weak (ltOf order) := weak_order fun x : Lab => x
set_option maxHeartbeats 1000000 in
/-- A list of labels of one's own is sorted in place. -/
theorem sortL_row (b cap : Nat) (d : Array Lab) (w : World) (hH : HoldsK encL 32 w b 0 d) (hblk : b < w.heap.size) (hz : d.size ≤ 1000000) :
    Calls Tryz.prog 102 #[.slice (some ⟨b, 0, none⟩) d.size cap, .func (.func 42) #[] #[]] w fun e w' => e = .returned (.tuple #[]) ∧ ∃ d' n os, PermIn 0 d.size d d' ∧ SortedIn (ltOf order) 0 d.size d' ∧ w' = sortWorldK encL 32 w b 0 n d' os :=
  AnyQ.slices_SortFunc laysL 32 (fun w => by kernel_rfl) (fun w => by kernel_rfl) encL encL_len (fun x => one_of_rowL x) order weakL.swo 42 #[] b 0 cap d w eg_order (fun m os dk _ x y => cmp_labels _ x y) hH hblk (by omega)
set_option maxHeartbeats 1000000 in
theorem insL_nil (f : Value) (w : World) : Calls Tryz.prog 125 #[.slice none 0 0, .int .i64 0, .int .i64 0, f] w fun e w' => e = .returned (.tuple #[]) ∧ w' = w := by
  go_enter Tryz.func125, Tryz.ntmps125
  go_wp2
  go_loopw [8] (fun s8 wr => s8 = .int .i64 1 ∧ wr = w) (fun _ _ => 0)
  case atStart => exact ⟨rfl, rfl⟩
  case round =>
    obtain ⟨rfl, rfl⟩ := hrel
    go_wp2
    go_end0
    exact ⟨rfl, rfl⟩
set_option maxHeartbeats 1000000 in
theorem pdqL_nil (k : Int) (f : Value) (w : World) : Calls Tryz.prog 117 #[.slice none 0 0, .int .i64 0, .int .i64 0, .int .i64 k, f] w fun e w' => e = .returned (.tuple #[]) ∧ w' = w := by
  have hc := insL_nil f
  go_enter Tryz.func117, Tryz.ntmps117
  go_wp2
  go_loopw [1, 2, 3, 10, 11] (fun s1 s2 _ _ _ wr => s1 = .int .i64 0 ∧ s2 = .int .i64 0 ∧ wr = w) (fun _ _ _ _ _ _ => 0)
  case atStart => exact ⟨rfl, rfl, rfl⟩
  case round =>
    obtain ⟨rfl, rfl, rfl⟩ := hrel
    go_wp2_with fail
    refine (hc _).mono ?_
    rintro e w2 ⟨rfl, rfl⟩
    go_wp2
    first | go_end0 | ((try simp only [Exit.inBlock, Exit.then]); refine bodyPost_ret (results_none rfl _ _ _) rfl ?_)
    exact ⟨rfl, rfl⟩
theorem permL {L : List Lab} {d' : Array Lab} (h : PermIn 0 L.toArray.size L.toArray d') : d'.size = L.length ∧ d'.toList.Perm L := by
  have e1 : d'.size = L.length := by simpa using h.1
  have e2 : d'.extract 0 L.length = d' := by rw [← e1, Array.extract_size]
  have e3 : L.toArray.extract 0 L.length = L.toArray := by simp
  have h3 := h.2.2
  rw [List.size_toArray, e2, e3] at h3
  exact ⟨e1, h3⟩
theorem sortedL {d : Array Lab} {n : Nat} (hn : n = d.size) (h : SortedIn (ltOf order) 0 n d) : NoInv (ltOf order) d.toList := by
  subst hn
  refine List.pairwise_iff_getElem.2 fun i j hi hj hij => ?_
  have := h i j (Nat.zero_le _) hij (by simpa using hj)
  rw [getElem!_pos d j (by simpa using hj), getElem!_pos d i (by simpa using hi)] at this
  simpa using this
theorem bitsLen_nil (w : World) : Calls Tryz.prog 118 #[.int .u64 0] w fun e w' => e = .returned (.int .i64 (Lib.bitLen 0 : Nat)) ∧ w' = w := by
  have h := Any.bits_Len (SlLaysF0.n15.bits (P := Tryz.prog) (ρ := renL) { laysL with }) 0 w (by omega) (by omega)
  exact h
set_option maxHeartbeats 1000000 in
theorem sortL_nil (f : Value) (w : World) : Calls Tryz.prog 102 #[.slice none 0 0, f] w fun e w' => e = .returned (.tuple #[]) ∧ w' = w := by
  have hb := bitsLen_nil
  have hc := fun k => pdqL_nil k f
  go_enter Tryz.func102, Tryz.ntmps102
  go_wp2_with fail
  refine (hb _).mono ?_
  rintro e w2 ⟨rfl, rfl⟩
  go_wp2_with fail
  refine (hc _ _).mono ?_
  rintro e w3 ⟨rfl, rfl⟩
  go_wp2
  go_end0
  exact ⟨rfl, rfl⟩
/-- A list of labels of one's own is sorted in place. -/
theorem sortL_any (B : Nat) (v : Value) (L : List Lab) (hL : L.length ≤ 1000000) (w : World) (hB : B ≤ w.heap.size) (h : OwnL w B v L) :
    Calls Tryz.prog 102 #[v, .func (.func 42) #[] #[]] w fun e w' => e = .returned (.tuple #[]) ∧ ∃ S, S.Perm L ∧ NoInv (ltOf order) S ∧ OwnL w' B v S ∧ Below B w w' := by
  rcases h.holds with ⟨rfl, rfl⟩ | ⟨b, cap, c, rfl, h2, h3, h4, h5, h6, h7⟩
  · refine (sortL_nil _ w).mono ?_
    rintro e w' ⟨rfl, rfl⟩
    exact ⟨rfl, [], List.Perm.refl _, List.Pairwise.nil, h, Below.refl _ _⟩
  · have hblk := (Array.getElem?_eq_some_iff.1 h3).1
    have := sortL_row b cap L.toArray w h7 hblk (by rw [List.size_toArray]; exact hL)
    rw [List.size_toArray] at this
    refine this.mono ?_
    rintro e w' ⟨rfl, d', n, os, z1, z2, rfl⟩
    rw [← List.size_toArray] at z1
    obtain ⟨y1, y2⟩ := permL z1
    refine ⟨rfl, d'.toList, y2, sortedL y1.symm z2, ?_, ?_⟩
    · exact ownL_put (L := L) rfl h2 h3 h4 h5 h6 d' y1 n os
    · exact (Below.refl B w).grown (srt_grown w b _ n os) hB (fun k e => by cases e; exact h2)
set_option maxHeartbeats 1000000 in
theorem collectL_any (Bs cap : Nat) (ao : Option Addr) (L : List Lab) (hL : L.length ≤ 1000000) (w : World) (hBs : w.cell? ⟨Bs, 0, none⟩ = some (.slice ao L.length cap)) (hb : Bs < w.heap.size) (hA : AtL w.heap.size w (.slice ao L.length cap) L) :
    Calls Tryz.prog 101 #[.func (.func 103) #[] #[.pointer (some ⟨Bs, 0, none⟩)]] w fun e w' => ∃ v, e = .returned v ∧ OwnL w' w.heap.size v L ∧ Below w.heap.size w w' := by
  have HC := Lib.hid (appendL_any Bs cap ao L hL w hBs hb hA)
  clear hBs hb hA
  go_enter Tryz.func101, Tryz.ntmps101
  go_wp2_with fail
  refine HC.out.mono ?_
  rintro e w2 ⟨v, rfl, h1, h2⟩
  have H1 := Lib.hid h1
  have H2 := Lib.hid h2
  obtain ⟨ao', cap', rfl⟩ := h1.shape
  clear h1 h2 HC
  go_wp2
  go_ret
  exact ⟨_, rfl, H1.out, H2.out⟩
set_option maxHeartbeats 1000000 in
/-- What an iterator over labels hands out, sorted. -/
theorem sortedL_any (Bs cap : Nat) (ao : Option Addr) (L : List Lab) (hL : L.length ≤ 1000000) (w : World) (hBs : w.cell? ⟨Bs, 0, none⟩ = some (.slice ao L.length cap)) (hb : Bs < w.heap.size) (hA : AtL w.heap.size w (.slice ao L.length cap) L) :
    Calls Tryz.prog 72 #[.func (.func 103) #[] #[.pointer (some ⟨Bs, 0, none⟩)], .func (.func 42) #[] #[]] w fun e w' => ∃ v S, e = .returned v ∧ S.Perm L ∧ NoInv (ltOf order) S ∧ OwnL w' w.heap.size v S ∧ Below w.heap.size w w' := by
  have HC := Lib.hid (collectL_any Bs cap ao L hL w hBs hb hA)
  have HS : Hid (∀ (v : Value) (w' : World), w.heap.size ≤ w'.heap.size → OwnL w' w.heap.size v L → Calls Tryz.prog 102 #[v, .func (.func 42) #[] #[]] w' fun e w2 => e = .returned (.tuple #[]) ∧ ∃ S, S.Perm L ∧ NoInv (ltOf order) S ∧ OwnL w2 w.heap.size v S ∧ Below w.heap.size w' w2) := fun v w' h1 h2 => sortL_any w.heap.size v L hL w' h1 h2
  clear hBs hb hA
  go_enter Tryz.func72, Tryz.ntmps72
  go_wp2_with fail
  refine HC.out.mono ?_
  rintro e w2 ⟨v, rfl, h1, h2⟩
  have H2 := Lib.hid h2
  have HS2 := Lib.hid (HS.out v w2 h2.size h1)
  obtain ⟨ao', cap', rfl⟩ := h1.shape
  clear h1 h2 HC HS
  go_wp2_with fail
  refine HS2.out.mono ?_
  rintro e w3 ⟨rfl, S, h3, h5, h6, h4⟩
  have H3 := Lib.hid h3
  have H5 := Lib.hid h5
  have H6 := Lib.hid h6
  have H4 := Lib.hid (H2.out.trans h4)
  clear h3 h4 h5 h6 H2 HS2
  go_wp2
  go_ret
  exact ⟨_, S, rfl, H3.out, H5.out, H6.out, H4.out⟩
end Go.Proofs.YtmabigcolabbmaaGreatDoor
namespace Go.Proofs.YtmabigcolabbmaaGreatDoor
open Go Go.RowKit Go.Sort Go.Lib

set_option maxRecDepth 100000 in
set_option maxHeartbeats 2000000 in
theorem binL_any (ao : Option Addr) (cap : Nat) (L : List Lab) (k : Lab) (w : World) (hL : L.length ≤ 1000000) (hA : AtL w.heap.size w (.slice ao L.length cap) L)
    (hm : ∀ a b, a ≤ b → b < L.length → order (L.getD b zeroLab) k < 0 → order (L.getD a zeroLab) k < 0) :
    Calls Tryz.prog 75 #[.slice ao L.length cap, .agg (cellsL k), .func (.func 42) #[] #[]] w fun e w' => (∃ (c : Nat) (q : Bool), e = .returned (.tuple #[.int .i64 c, .bool q]) ∧ c ≤ L.length ∧ (∀ t, t < c → order (L.getD t zeroLab) k < 0) ∧ (∀ t, c ≤ t → t < L.length → 0 ≤ order (L.getD t zeroLab) k)) ∧ Below w.heap.size w w' := by
  obtain ⟨B, hB⟩ : ∃ B, w.heap.size = B := ⟨_, rfl⟩
  obtain ⟨n, hn⟩ : ∃ n, L.length = n := ⟨_, rfl⟩
  have HB : Hid (w.heap.size = B) := hB
  have hn1 : (n : Int) ≤ 1000000 := by omega
  have b0 : Below B w (w.alloc (.cells (cellsL k) 27)) := by rw [← hB]; exact (Below.refl _ _).alloc (Nat.le_refl _) _
  have r0 : rowAt (w.alloc (.cells (cellsL k) 27)) B = some (cellsL k) := by rw [← hB]; exact rowAt_alloc_at _ _ _ _ rfl
  have hz0 : B < (w.alloc (.cells (cellsL k) 27)).heap.size := by rw [World.size_alloc, hB]; omega
  have HA : Hid (∀ i, i < n → ∃ g o cur, ao = some ⟨g, o, none⟩ ∧ g < B ∧ rowAt w g = some cur ∧ o + (i * 32 + 32) ≤ cur.size ∧ cur.extract (o + i * 32) (o + i * 32 + 32) = cellsL (L.getD i zeroLab)) := by
    obtain ⟨ao', cap', h1, h2⟩ := hA
    injection h1 with e1 e2 e3
    rw [← hn, e1, ← hB]
    exact h2
  rw [hn] at hm ⊢
  have HM := Lib.hid hm
  have eg := eg_order
  have HO := Lib.hid (fun (a : Lab) w => Order_any a k w)
  clear hA hm hn hL
  rw [hB]
  go_enter Tryz.func75, Tryz.ntmps75
  go_wp2_with fail
  generalize w.alloc (.cells (cellsL k) 27) = W at *
  clear hB
  go_loopw [9, 10] (fun s9 s10 wr => ∃ i j : Nat, s9 = .int .i64 i ∧ s10 = .int .i64 j ∧ i ≤ j ∧ j ≤ n ∧ Hid ((∀ t, t < i → order (L.getD t zeroLab) k < 0) ∧ (∀ t, j ≤ t → t < n → 0 ≤ order (L.getD t zeroLab) k)) ∧ Below B w wr ∧ rowAt wr B = some (cellsL k) ∧ B < wr.heap.size) (fun s9 s10 _ => (intOf s10 - intOf s9).toNat)
  case atStart => exact ⟨0, n, rfl, rfl, Nat.zero_le _, Nat.le_refl _, ⟨fun t h => absurd h (Nat.not_lt_zero _), fun t h1 h2 => by omega⟩, b0, r0, hz0⟩
  case round =>
    clear b0 r0 hz0
    obtain ⟨i, j, rfl, rfl, hij, hj, HI, B1, R1, Z1⟩ := hrel
    by_cases hlt : i < j
    · have hltz : (i : Int) < (j : Int) := by omega
      obtain ⟨h, hh⟩ : ∃ h, (i + j) / 2 = h := ⟨_, rfl⟩
      have hh1 : ((i : Int) + j) / 2 = h := by omega
      have hh2 : (i : Int) + j ≤ 2000000000 := by omega
      have hh0 : (0 : Int) ≤ (i : Int) + j := by omega
      have hhw : IntKind.i64.wrap ((i : Int) + j) = (i : Int) + j := by rw [IntKind.wrap_i64]; omega
      have hhl : i ≤ h ∧ h < j := by omega
      clear hh
      have hhn : h < n := by omega
      obtain ⟨g, o, c, rfl, hg, hr, hs, hx⟩ := HA.out h hhn
      have p1 := fun x : Past wr => Past.row ((rowAt_below B1 hg).trans hr) x
      have p2 := fun x : Past wr => Past.row R1 x
      have s1 : o + h * 32 + 32 ≤ c.size := by omega
      have hhi : (h : Int) < n := by omega
      have HC := Lib.hid (fun w => HO.out (L.getD h zeroLab) w)
      obtain ⟨X, hX⟩ : ∃ X, L.getD h zeroLab = X := ⟨_, rfl⟩
      rw [hX] at HC hx
      have HIH : Hid ((order X k < 0 → ∀ t, t < h + 1 → order (L.getD t zeroLab) k < 0) ∧ (¬ order X k < 0 → ∀ t, h ≤ t → t < n → 0 ≤ order (L.getD t zeroLab) k)) := by
        constructor
        · intro q t ht
          exact HM.out t h (by omega) hhn (by rw [hX]; exact q)
        · intro q t h1 h2
          exact Int.not_lt.1 fun q2 => q (by rw [← hX]; exact HM.out h t h1 h2 q2)
      generalize order X k = z at HC HIH
      clear hs hr hX
      by_cases hz : z < 0
      · have qz : decide (z < 0) = true := decide_eq_true hz
        have HI2 : Hid ((∀ t, t < h + 1 → order (L.getD t zeroLab) k < 0) ∧ (∀ t, j ≤ t → t < n → 0 ≤ order (L.getD t zeroLab) k)) := ⟨HIH.out.1 hz, HI.out.2⟩
        clear HIH HI
        go_wp2_with fail
        refine wp_region_past (by kernel_rfl) (by kernel_rfl) ?_
        repeat (go_big_quiet_step (first | (go_at_call 42; exact Past.call (HC.out _)) | (go_at_fn 42; exact Past.call (HC.out _))))
        refine wpQuiet_nil ?_
        intro w2 hw2
        obtain ⟨⟨wn, hn⟩, rfl⟩ := hw2
        try dsimp only
        have B2 := B1.trans (hn.mono (Nat.le_of_lt Z1))
        have R2 := rowAt_past hn R1
        have Z2 := Nat.lt_of_lt_of_le Z1 hn.size
        clear hn p1 p2 s1 hx HC B1 R1 Z1
        go_wp2
        go_roundw
        case rel => exact ⟨h + 1, j, by go_num, rfl, by omega, hj, HI2, B2, R2, Z2⟩
        case measure => simp [intOf]; omega
      · have qz : decide (z < 0) = false := decide_eq_false hz
        have HI2 : Hid ((∀ t, t < i → order (L.getD t zeroLab) k < 0) ∧ (∀ t, h ≤ t → t < n → 0 ≤ order (L.getD t zeroLab) k)) := ⟨HI.out.1, HIH.out.2 hz⟩
        clear HIH HI
        go_wp2_with fail
        refine wp_region_past (by kernel_rfl) (by kernel_rfl) ?_
        repeat (go_big_quiet_step (first | (go_at_call 42; exact Past.call (HC.out _)) | (go_at_fn 42; exact Past.call (HC.out _))))
        refine wpQuiet_nil ?_
        intro w2 hw2
        obtain ⟨⟨wn, hn⟩, rfl⟩ := hw2
        try dsimp only
        have B2 := B1.trans (hn.mono (Nat.le_of_lt Z1))
        have R2 := rowAt_past hn R1
        have Z2 := Nat.lt_of_lt_of_le Z1 hn.size
        clear hn p1 p2 s1 hx HC B1 R1 Z1
        go_wp2
        go_roundw
        case rel => exact ⟨i, h, rfl, rfl, by omega, by omega, HI2, B2, R2, Z2⟩
        case measure => simp [intOf]; omega
    · obtain rfl : i = j := by omega
      have hltz : ¬ (i : Int) < (i : Int) := by omega
      by_cases hin : i < n
      · have hini : (i : Int) < n := by omega
        obtain ⟨g, o, c, rfl, hg, hr, hs, hx⟩ := HA.out i hin
        have p1 := fun x : Past wr => Past.row ((rowAt_below B1 hg).trans hr) x
        have p2 := fun x : Past wr => Past.row R1 x
        have s1 : o + i * 32 + 32 ≤ c.size := by omega
        have HC := Lib.hid (fun w => HO.out (L.getD i zeroLab) w)
        generalize L.getD i zeroLab = X at HC hx
        generalize order X k = z at HC
        clear hs hr
        go_wp2_with fail
        refine wp_region_past (by kernel_rfl) (by kernel_rfl) ?_
        repeat (go_big_quiet_step (first | (go_at_call 42; exact Past.call (HC.out _)) | (go_at_fn 42; exact Past.call (HC.out _))))
        refine wpQuiet_nil ?_
        intro w2 hw2
        obtain ⟨⟨wn, hn⟩, rfl⟩ := hw2
        try dsimp only
        have B2 := B1.trans (hn.mono (Nat.le_of_lt Z1))
        clear hn p1 p2 s1 hx HC B1 R1 Z1
        go_wp2
        go_ret2
        exact ⟨⟨i, _, rfl, hj, HI.out.1, HI.out.2⟩, B2⟩
      · have hini : ¬ (i : Int) < n := by omega
        go_wp2_with fail
        refine wp_region_past (by kernel_rfl) (by kernel_rfl) ?_
        repeat (go_big_quiet_step (fail))
        refine wpQuiet_nil ?_
        intro w2 hw2
        obtain ⟨⟨wn, hn⟩, rfl⟩ := hw2
        try dsimp only
        have B2 := B1.trans (hn.mono (Nat.le_of_lt Z1))
        clear hn B1 R1 Z1
        go_wp2
        go_ret2
        exact ⟨⟨i, _, rfl, hj, HI.out.1, HI.out.2⟩, B2⟩
end Go.Proofs.YtmabigcolabbmaaGreatDoor
namespace Go.Proofs.YtmabigcolabbmaaGreatDoor
open Go Go.RowKit Go.Sort Go.Lib

set_option maxRecDepth 100000 in
set_option maxHeartbeats 2000000 in
theorem paAmong_any (v : Value) (L : List Lab) (hL : L.length ≤ 1000000) (w : World) (hA : AtL w.heap.size w v L) :
    Calls Tryz.prog 44 #[v] w fun e w' => ∃ (p : Nat) (u : Value) (S : List Lab), e = .returned (.func (.func 74) #[] #[.pointer (some ⟨p, 0, none⟩)]) ∧ w'.heap[p]? = some (.cells #[u] 39 (0, 0)) ∧ w.heap.size ≤ p ∧ S.Perm L ∧ NoInv (ltOf order) S ∧ OwnL w' w.heap.size u S ∧ Below w.heap.size w w' := by
  obtain ⟨ao, cap, rfl, hA2⟩ := hA
  have b1 : Below w.heap.size w (w.alloc (.cells #[.slice ao L.length cap] 39)) := (Below.refl _ _).alloc (Nat.le_refl _) _
  have hA1 : AtL w.heap.size (w.alloc (.cells #[.slice ao L.length cap] 39)) (.slice ao L.length cap) L := AtL.below ⟨ao, cap, rfl, hA2⟩ (Nat.le_refl _) b1
  have hc : (w.alloc (.cells #[.slice ao L.length cap] 39)).cell? ⟨w.heap.size, 0, none⟩ = some (.slice ao L.length cap) := (Lib.cell_of_heap (World.alloc_heap_new w _) 0).trans rfl
  have hs : w.heap.size < (w.alloc (.cells #[.slice ao L.length cap] 39)).heap.size := by rw [World.size_alloc]; omega
  have HS := Lib.hid (sortedL_any w.heap.size cap ao L hL _ hc hs (hA1.below (Nat.le_of_lt hs) (Below.refl _ _)))
  have HV := Lib.hid (valsL_any ao L.length cap w)
  clear hA2 hA1 hc
  go_enter Tryz.func44, Tryz.ntmps44
  go_wp2_with fail
  refine HV.out.mono ?_
  rintro e w2 ⟨rfl, rfl⟩
  go_wp2_with fail
  refine HS.out.mono ?_
  rintro e w3 ⟨u, S, rfl, h1, h2, h3, h4⟩
  have O3 : OwnL w3 w.heap.size u S := h3.base (Nat.le_of_lt hs)
  have B3 : Below w.heap.size w w3 := b1.trans (h4.mono (Nat.le_of_lt hs))
  have hz := B3.size
  obtain ⟨ao', cap', rfl⟩ := O3.shape
  have O4 := Lib.hid (O3.below ((Below.refl w3.heap.size w3).alloc (Nat.le_refl _) (.cells #[.slice ao' S.length cap'] 39)))
  have B4 := Lib.hid (B3.alloc hz (.cells #[.slice ao' S.length cap'] 39))
  have x4 := Lib.hid (World.alloc_heap_new w3 (.cells #[.slice ao' S.length cap'] 39))
  have H1 := Lib.hid h1
  have H2 := Lib.hid h2
  clear h1 h2 h3 h4 HS HV b1 O3 B3
  go_wp2_with fail
  go_ret
  exact ⟨w3.heap.size, _, S, rfl, x4.out, hz, H1.out, H2.out, O4.out, B4.out⟩
/-- Does the first label that isn't below begin so? -/
def touchAt (S : List Lab) (n : Int) (b : Lab) (c : Nat) : Bool := if c < S.length then has n b (S.getD c zeroLab) else false
def firstAt (S : List Lab) (b : Lab) (c : Nat) : Prop := c ≤ S.length ∧ (∀ t, t < c → order (S.getD t zeroLab) b < 0) ∧ (∀ t, c ≤ t → t < S.length → 0 ≤ order (S.getD t zeroLab) b)
theorem rise_first {S : List Lab} (h : NoInv (ltOf order) S) (b : Lab) : ∀ i j, i ≤ j → j < S.length → order (S.getD j zeroLab) b < 0 → order (S.getD i zeroLab) b < 0 := by
  intro i j hij hj hlt
  have hw := weakL
  by_cases e : i = j
  · subst e
    exact hlt
  · have hi : i < S.length := by omega
    have hp := List.pairwise_iff_getElem.1 h i j hi hj (by omega)
    rw [List.getD_eq_getElem?_getD, List.getElem?_eq_getElem hj] at hlt
    rw [List.getD_eq_getElem?_getD, List.getElem?_eq_getElem hi]
    exact of_decide_eq_true (hw.lt_of' hp (decide_eq_true hlt))
set_option maxRecDepth 100000 in
set_option maxHeartbeats 2000000 in
theorem paAmong1_any (p : Nat) (ao : Option Addr) (cap : Nat) (S : List Lab) (n : Int) (b : Lab) (w : World) (hS : S.length ≤ 1000000) (hs : NoInv (ltOf order) S) (hp : w.cell? ⟨p, 0, none⟩ = some (.slice ao S.length cap)) (hA : AtL w.heap.size w (.slice ao S.length cap) S) :
    Calls Tryz.prog 74 #[.agg (cellsP n b), .pointer (some ⟨p, 0, none⟩)] w fun e w' => (∃ c, e = .returned (.bool (touchAt S n b c)) ∧ firstAt S b c) ∧ Below w.heap.size w w' := by
  have b0 : Below w.heap.size w (w.alloc (.cells (cellsP n b) 66)) := (Below.refl _ _).alloc (Nat.le_refl _) _
  have r0 : rowAt (w.alloc (.cells (cellsP n b) 66)) w.heap.size = some (cellsP n b) := rowAt_alloc_at _ _ _ _ rfl
  have hsz : w.heap.size < (w.alloc (.cells (cellsP n b) 66)).heap.size := by rw [World.size_alloc]; omega
  have A1 : AtL (w.alloc (.cells (cellsP n b) 66)).heap.size (w.alloc (.cells (cellsP n b) 66)) (.slice ao S.length cap) S := AtL.below (hA.below (Nat.le_refl _) b0) (Nat.le_of_lt hsz) (Below.refl _ _)
  have c1 : (w.alloc (.cells (cellsP n b) 66)).cell? ⟨p, 0, none⟩ = some (.slice ao S.length cap) := (b0.cell (p := ⟨p, 0, none⟩) (cellLt hp)).trans hp
  have HF := Lib.hid (binL_any ao cap S b (w.alloc (.cells (cellsP n b) 66)) hS A1 (rise_first hs b))
  have HA := Lib.hid A1
  obtain ⟨m, hm⟩ : ∃ m, S.length = m := ⟨_, rfl⟩
  have HM : Hid (S.length = m) := hm
  have hm1 : (m : Int) ≤ 1000000 := by omega
  rw [hm] at c1 HF
  clear hA A1 hp hs hS hm
  go_enter Tryz.func74, Tryz.ntmps74
  go_wp2_with fail
  generalize w.alloc (.cells (cellsP n b) 66) = W at *
  refine HF.out.mono ?_
  rintro e w2 ⟨⟨c, q, rfl, z1, z2, z3⟩, b2⟩
  have b3 := below_past b0 b2 b0.size
  have r2 := rowAt_past b2 r0
  have c2 : w2.cell? ⟨p, 0, none⟩ = some (.slice ao m cap) := (b2.cell (p := ⟨p, 0, none⟩) (cellLt c1)).trans c1
  have HZ : Hid (firstAt S b c) := by
    show firstAt S b c
    rw [firstAt, HM.out]
    exact ⟨z1, z2, z3⟩
  have A2 := AtL.below (HA.out.below (Nat.le_refl _) b2) b2.size (Below.refl _ _)
  clear HF HA b0 r0 c1 b2 z2 z3 hsz
  have k2 := fun x : Past w2 => (Past.cell (cellLt c2) x).trans c2
  have p2 := fun x : Past w2 => Past.row r2 x
  by_cases hc : c < m
  · have hci : (c : Int) < m := by omega
    obtain ⟨ao', cap', e0, hA2⟩ := A2
    injection e0 with e1 e2 e3
    subst e1
    obtain ⟨g, o, cur, rfl, hg, hr, hs, hx⟩ := hA2 c (by rw [HM.out]; exact hc)
    have p1 := fun x : Past w2 => Past.row hr x
    have s1 : o + c * 32 + 32 ≤ cur.size := by omega
    have HT : Hid (touchAt S n b c = has n b (S.getD c zeroLab)) := by
      show _ = _
      rw [touchAt, if_pos (by rw [HM.out]; exact hc)]
    have HC := Lib.hid (fun w => Has_any n b (S.getD c zeroLab) w)
    generalize S.getD c zeroLab = X at HC HT hx
    generalize has n b X = z at HC HT
    clear hA2 hs e2 e3 hr
    go_wp2_with fail
    refine wp_region_past (by kernel_rfl) (by kernel_rfl) ?_
    repeat (go_big_quiet_step (first | (go_at_call 76; exact Past.call (HC.out _))))
    refine wpQuiet_nil ?_
    intro w2 hw2
    obtain ⟨⟨wn, hn⟩, rfl⟩ := hw2
    try dsimp only
    have B4 := below_past b3 hn b3.size
    clear hn p1 p2 k2 hx HC b3 r2 c2
    go_wp2
    go_ret
    exact ⟨⟨c, by rw [HT.out]; rfl, HZ.out⟩, B4⟩
  · have hci : ¬ (c : Int) < m := by omega
    have HT : Hid (touchAt S n b c = false) := by
      show _ = _
      rw [touchAt, if_neg (by rw [HM.out]; exact hc)]
    go_wp2_with fail
    refine wp_region_past (by kernel_rfl) (by kernel_rfl) ?_
    repeat (go_big_quiet_step (fail))
    refine wpQuiet_nil ?_
    intro w2 hw2
    obtain ⟨⟨wn, hn⟩, rfl⟩ := hw2
    try dsimp only
    have B4 := below_past b3 hn b3.size
    clear hn p2 k2 b3 r2 c2 A2
    go_wp2
    go_ret
    exact ⟨⟨c, by rw [HT.out]; rfl, HZ.out⟩, B4⟩
end Go.Proofs.YtmabigcolabbmaaGreatDoor
namespace Go.Proofs.YtmabigcolabbmaaGreatDoor
open Go Go.RowKit Go.Sort Go.Lib

theorem noinv_le {S : List Lab} (h : NoInv (ltOf order) S) {i j : Nat} (hij : i ≤ j) (hj : j < S.length) : order (S.getD i zeroLab) (S.getD j zeroLab) ≤ 0 := by
  by_cases e : i = j
  · subst e
    rw [order_zero.2 rfl]
    exact Int.le_refl _
  · have hi : i < S.length := by omega
    have hp := List.pairwise_iff_getElem.1 h i j hi hj (by omega)
    have hp2 : ¬ order S[j] S[i] < 0 := of_decide_eq_false hp
    rw [List.getD_eq_getElem?_getD, List.getD_eq_getElem?_getD, List.getElem?_eq_getElem hi, List.getElem?_eq_getElem hj]
    show order S[i] S[j] ≤ 0
    by_cases h0 : 0 < order S[i] S[j]
    · exact absurd (order_swap.2 h0) hp2
    · omega
theorem cut_order (a : Lab) (n : Nat) : order (cut a n) a ≤ 0 := by
  have hc := common_is (cut a n) a
  refine order_le.2 ?_
  by_cases h : common (cut a n) a = 256
  · exact .inl (common_256.1 h)
  · have hl : common (cut a n) a < 256 := by have := hc.le; omega
    have ho := hc.other hl
    have hb := bit_cut a n (common (cut a n) a) hl
    refine .inr ⟨_, hl, rfl, ?_, ?_⟩
    · rw [hb] at ho ⊢
      split
      · rename_i h1
        rw [if_pos h1] at ho
        exact absurd rfl ho
      · rfl
    · have hlt := bit_lt a (common (cut a n) a)
      rw [hb] at ho
      split at ho
      · exact absurd rfl ho
      · omega
/-- What a search in the sorted labels finds is whether any label begins so. -/
theorem touch_any {S : List Lab} (hS : NoInv (ltOf order) S) {n : Int} {b : Lab} {c : Nat} (hf : firstAt S b c) : touchAt S n b c = S.any (has n b) := by
  cases hg : good n b with
  | false =>
    have hh : ∀ l, has n b l = false := fun l => by unfold has; rw [hg]; rfl
    unfold touchAt
    rw [hh, show S.any (has n b) = false from List.any_eq_false.2 fun l _ => by rw [hh]; decide]
    split <;> rfl
  | true =>
    obtain ⟨m, rfl, hm, hc⟩ := good_nat hg
    have hh : ∀ l, has (m : Int) b l = true ↔ m ≤ common b l := fun l => by
      unfold has
      rw [hg, Bool.true_and, decide_eq_true_iff]
      omega
    cases hs : S.any (has (m : Int) b) with
    | false =>
      unfold touchAt
      split
      · rename_i hl
        rw [List.getD_eq_getElem?_getD, List.getElem?_eq_getElem hl]
        have := List.any_eq_false.1 hs _ (List.getElem_mem hl)
        simpa using this
      · rfl
    | true =>
      obtain ⟨l, hl, hp⟩ := List.any_eq_true.1 hs
      obtain ⟨i, hi, rfl⟩ := List.getElem_of_mem hl
      have e : S[i] = S.getD i zeroLab := by rw [List.getD_eq_getElem?_getD, List.getElem?_eq_getElem hi]; rfl
      rw [e] at hp
      have h1 := (common_ge (l := S.getD i zeroLab) hm hc).1 ((hh _).1 hp)
      have h2 : order b (S.getD i zeroLab) ≤ 0 := by
        rw [← h1]
        exact cut_order _ _
      have hci : c ≤ i := by
        by_cases hlt : i < c
        · have := hf.2.1 i hlt
          have h3 : ¬ 0 < order b (S.getD i zeroLab) := by omega
          exact absurd (order_swap.1 this) h3
        · omega
      have hcl : c < S.length := by omega
      have h4 := hf.2.2 c (Nat.le_refl _) hcl
      have h5 : order b (S.getD c zeroLab) ≤ 0 := by
        by_cases h6 : 0 < order b (S.getD c zeroLab)
        · have := order_swap.2 h6
          omega
        · omega
      have h7 := (between_math h5 (noinv_le hS hci hi)).2
      have h8 := (hh _).1 hp
      unfold touchAt
      rw [if_pos hcl]
      exact (hh _).2 (by omega)
theorem touch_perm {S L : List Lab} (h : S.Perm L) (n : Int) (b : Lab) : S.any (has n b) = L.any (has n b) := h.any_eq
/-- The parts that no label touches, and the leaves that one does; of leaves by rising labels. -/
def covF : Nat → (Int → Lab → Bool) → List Lf → List Itm × List Lf
  | 0, _, _ => ([], [])
  | f + 1, t, P =>
    if t (overL (P.map leafI)).1 (overL (P.map leafI)).2 = false then ([wholeF P.length (P.map leafI)], [])
    else if P.length = 1 then ([], P)
    else ((covF f t (P.take (forkC (P.map leafI)))).1 ++ (covF f t (P.drop (forkC (P.map leafI)))).1, (covF f t (P.take (forkC (P.map leafI)))).2 ++ (covF f t (P.drop (forkC (P.map leafI)))).2)
theorem tw_at {α : Type} (p : α → Bool) : ∀ L : List α, (L.takeWhile p).length ≤ L.length ∧ (∀ t x, t < (L.takeWhile p).length → L[t]? = some x → p x = true) ∧ (∀ x, L[(L.takeWhile p).length]? = some x → p x = false)
  | [] => ⟨Nat.le_refl _, fun t x h => absurd h (Nat.not_lt_zero _), fun x h => by cases h⟩
  | y :: L => by
    obtain ⟨h1, h2, h3⟩ := tw_at p L
    cases hp : p y with
    | false =>
      rw [List.takeWhile_cons_of_neg (by rw [hp]; decide)]
      refine ⟨Nat.zero_le _, fun t x h => absurd h (Nat.not_lt_zero _), fun x h => ?_⟩
      cases h
      exact hp
    | true =>
      rw [List.takeWhile_cons_of_pos hp]
      refine ⟨Nat.succ_le_succ h1, fun t x h hx => ?_, fun x h => ?_⟩
      · cases t with
        | zero => cases hx; exact hp
        | succ t => exact h2 t x (Nat.lt_of_succ_lt_succ h) hx
      · exact h3 x h
theorem forkC_at {L : List Itm} (h : RiseI L) : ForkAt L (forkC L) := by
  obtain ⟨h1, h2, h3⟩ := tw_at (fun x : Itm => !(bitI x.b (commonL L) == 1)) L
  have hc : forkC L = (L.takeWhile fun x => !(bitI x.b (commonL L) == 1)).length := rfl
  have hg : ∀ t (ht : t < L.length), L.getD t zeroItm = L[t] := fun t ht => by rw [List.getD_eq_getElem?_getD, List.getElem?_eq_getElem ht]; rfl
  refine ⟨h1, fun t ht => ?_, fun t ht hl => ?_⟩
  · have hl : t < L.length := Nat.lt_of_lt_of_le ht h1
    have := h2 t L[t] ht (List.getElem?_eq_getElem hl)
    unfold forkP
    rw [hg t hl]
    simpa using this
  · have hcl : forkC L < L.length := Nat.lt_of_le_of_lt ht hl
    have := h3 L[forkC L] (List.getElem?_eq_getElem hcl)
    refine fork_mono h _ _ ht hl ?_
    unfold forkP
    rw [hg _ hcl]
    simpa using this
theorem RiseI.take {L : List Itm} (h : RiseI L) (c : Nat) : RiseI (L.take c) := List.Pairwise.sublist (List.take_sublist c L) h
theorem RiseI.drop {L : List Itm} (h : RiseI L) (c : Nat) : RiseI (L.drop c) := List.Pairwise.sublist (List.drop_sublist c L) h
theorem covF_len : ∀ (f : Nat) (t : Int → Lab → Bool) (P : List Lf), 0 < P.length → RiseI (P.map leafI) → (covF f t P).1.length ≤ P.length ∧ (covF f t P).2.length ≤ P.length := by
  intro f t
  induction f with
  | zero => intro P h0 h; exact ⟨Nat.zero_le _, Nat.zero_le _⟩
  | succ f ih =>
    intro P h0 h
    unfold covF
    split
    · exact ⟨h0, Nat.zero_le _⟩
    · split
      · exact ⟨Nat.zero_le _, Nat.le_refl _⟩
      · rename_i h1
        obtain ⟨hc0, hcl⟩ := (forkC_at h).inside h (by rw [List.length_map]; omega)
        rw [List.length_map] at hcl
        have l1 : (P.take (forkC (P.map leafI))).length = forkC (P.map leafI) := by rw [List.length_take]; omega
        have l2 : (P.drop (forkC (P.map leafI))).length = P.length - forkC (P.map leafI) := List.length_drop
        have r1 := ih (P.take (forkC (P.map leafI))) (by omega) (by rw [List.map_take]; exact h.take _)
        have r2 := ih (P.drop (forkC (P.map leafI))) (by omega) (by rw [List.map_drop]; exact h.drop _)
        rw [l1] at r1
        rw [l2] at r2
        simp only [List.length_append]
        omega
end Go.Proofs.YtmabigcolabbmaaGreatDoor
namespace Go.Proofs.YtmabigcolabbmaaGreatDoor
open Go Go.RowKit Go.Sort Go.Lib

theorem setC_grown (w : World) (b j : Nat) (x : Value) : w.grownBy (w.setCell ⟨b, j, none⟩ x) (some b) :=
  ⟨rfl, rfl, rfl, by simp [World.setCell], fun k _ hk => Below.heap_setCell _ _ _ _ (fun e => hk (by simp [e]))⟩
theorem setC_put {w : World} {b j : Nat} {cs : Array Value} {T : TypeId} {fr : Nat × Nat} (h : w.heap[b]? = some (.cells cs T fr)) (x : Value) : (w.setCell ⟨b, j, none⟩ x).heap[b]? = some (.cells (cs.setIfInBounds j x) T fr) := by
  simp [World.setCell, Array.getElem?_modify, h]
theorem heap_ltC {w : World} {b : Nat} {o : Obj} (h : w.heap[b]? = some o) : b < w.heap.size := (Array.getElem?_eq_some_iff.1 h).1
/-- The two lists that grow, in their boxes, and the box of the call itself. -/
structure CovW (w : World) (B pS pU pO : Nat) (vo us uu : Value) (S : List Itm) (U : List Lf) : Prop where
  hs : w.heap[pS]? = some (.cells #[us] 22 (0, 0))
  hu : w.heap[pU]? = some (.cells #[uu] 38 (0, 0))
  ho : w.heap[pO]? = some (.cells #[vo] 88 (0, 0))
  os : OwnI w B us S
  ou : OwnF w B uu U
theorem CovW.below {w w' : World} {B pS pU pO : Nat} {vo us uu : Value} {S : List Itm} {U : List Lf} (h : CovW w B pS pU pO vo us uu S U) (k : Below w.heap.size w w') : CovW w' B pS pU pO vo us uu S U :=
  ⟨(k.block _ (heap_ltC h.hs)).trans h.hs, (k.block _ (heap_ltC h.hu)).trans h.hu, (k.block _ (heap_ltC h.ho)).trans h.ho, h.os.below k, h.ou.below k⟩
theorem covT_ne_item : (88 : TypeId) ≠ 68 := by decide
theorem covT_ne_leaf : (88 : TypeId) ≠ 51 := by decide
theorem covT_ne_items : (88 : TypeId) ≠ 22 := by decide
theorem covT_ne_leaves : (88 : TypeId) ≠ 38 := by decide
theorem items_ne_item : (22 : TypeId) ≠ 68 := by decide
theorem items_ne_leaf : (22 : TypeId) ≠ 51 := by decide
theorem leaves_ne_item : (38 : TypeId) ≠ 68 := by decide
theorem leaves_ne_leaf : (38 : TypeId) ≠ 51 := by decide
theorem items_ne_leaves : (22 : TypeId) ≠ 38 := by decide
theorem item_ne_leafC : (68 : TypeId) ≠ 51 := by decide
theorem block_type {w : World} {a b : Nat} {c d : Array Value} {t u : TypeId} (h1 : w.heap[a]? = some (.cells c t (0, 0))) (h2 : w.heap[b]? = some (.cells d u (0, 0))) (hne : t ≠ u) : a ≠ b := fun e => by
  subst e
  rw [h1] at h2
  cases h2
  exact hne rfl
theorem own_ne_own {w : World} {B : Nat} {us uu : Value} {S : List Itm} {U : List Lf} (os : OwnI w B us S) (ou : OwnF w B uu U) : ∀ g, us.ownBlock = some g → uu.ownBlock ≠ some g := fun g h1 h2 => by
  obtain ⟨_, _, c1, x1⟩ := os.block h1
  obtain ⟨_, _, c2, x2⟩ := ou.block h2
  exact block_type x1 x2 item_ne_leafC rfl
theorem grown_opt {w w' : World} {v : Value} (hg : w.grownBy w' v.ownBlock) : ∀ b, b < w.heap.size → v.ownBlock ≠ some b → w'.heap[b]? = w.heap[b]? := fun b hb hne => hg.block b hb (fun e => hne e.symm)
theorem CovW.putS {w w2 : World} {B pS pU pO : Nat} {vo us uu v' : Value} {S S2 : List Itm} {U : List Lf} (h : CovW w B pS pU pO vo us uu S U) (o2 : OwnI w2 B v' S2) (hg : w.grownBy w2 us.ownBlock) : CovW (w2.setCell ⟨pS, 0, none⟩ v') B pS pU pO vo v' uu S2 U := by
  have h1 := (grown_opt hg _ (heap_ltC h.hs) (h.os.apart h.hs items_ne_item)).trans h.hs
  have h2 := (grown_opt hg _ (heap_ltC h.hu) (h.os.apart h.hu leaves_ne_item)).trans h.hu
  have h3 := (grown_opt hg _ (heap_ltC h.ho) (h.os.apart h.ho covT_ne_item)).trans h.ho
  have ou2 : OwnF w2 B uu U := by
    refine World.ownsRow.kept h.ou hg ?_
    cases hq : uu.ownBlock with
    | none => exact .inl rfl
    | some g => exact .inr fun e => own_ne_own h.os h.ou g e.symm hq
  have gs := setC_grown w2 pS 0 v'
  refine ⟨setC_put h1 v', (Below.heap_setCell _ _ _ _ (block_type h1 h2 items_ne_leaves).symm).trans h2, (Below.heap_setCell _ _ _ _ (block_type h3 h1 covT_ne_items)).trans h3, o2.aside gs (o2.apart h1 items_ne_item), ou2.aside gs (ou2.apart h1 items_ne_leaf)⟩
theorem CovW.putU {w w2 : World} {B pS pU pO : Nat} {vo us uu v' : Value} {S : List Itm} {U U2 : List Lf} (h : CovW w B pS pU pO vo us uu S U) (o2 : OwnF w2 B v' U2) (hg : w.grownBy w2 uu.ownBlock) : CovW (w2.setCell ⟨pU, 0, none⟩ v') B pS pU pO vo us v' S U2 := by
  have h1 := (grown_opt hg _ (heap_ltC h.hs) (h.ou.apart h.hs items_ne_leaf)).trans h.hs
  have h2 := (grown_opt hg _ (heap_ltC h.hu) (h.ou.apart h.hu leaves_ne_leaf)).trans h.hu
  have h3 := (grown_opt hg _ (heap_ltC h.ho) (h.ou.apart h.ho covT_ne_leaf)).trans h.ho
  have os2 : OwnI w2 B us S := by
    refine World.ownsRow.kept h.os hg ?_
    cases hq : us.ownBlock with
    | none => exact .inl rfl
    | some g => exact .inr fun e => own_ne_own h.os h.ou g hq e.symm
  have gs := setC_grown w2 pU 0 v'
  refine ⟨(Below.heap_setCell _ _ _ _ (block_type h1 h2 items_ne_leaves)).trans h1, setC_put h2 v', (Below.heap_setCell _ _ _ _ (block_type h3 h2 covT_ne_leaves)).trans h3, os2.aside gs (os2.apart h2 leaves_ne_item), o2.aside gs (o2.apart h2 leaves_ne_leaf)⟩
/-- A part of a list that lies. -/
theorem AtI.part {n0 : Nat} {w : World} {g o cap fr en : Nat} {L : List Itm} (h : AtI n0 w (.slice (some ⟨g, o, none⟩) L.length cap) L) (h1 : fr ≤ en) (h2 : en ≤ L.length) : AtI n0 w (.slice (some ⟨g, o + fr * 66, none⟩) (en - fr) (cap - fr)) ((L.drop fr).take (en - fr)) := by
  have := h.drop (c := fr) (by omega)
  have hl : (L.drop fr).length = L.length - fr := List.length_drop
  rw [← hl] at this
  exact this.take (by omega)
end Go.Proofs.YtmabigcolabbmaaGreatDoor
namespace Go.Proofs.YtmabigcolabbmaaGreatDoor
open Go Go.RowKit Go.Sort Go.Lib

/-- What stays as it was while the call runs: the items, the leaves, what is asked of labels. -/
structure CovF (w0 : World) (n0 N pI pT pL pG gI oI capI gL oL capL : Nat) (P : List Lf) (t : Int → Lab → Bool) : Prop where
  hn : w0.heap.size = n0
  hN : P.length = N
  hI : w0.cell? ⟨pI, 0, none⟩ = some (.slice (some ⟨gI, oI, none⟩) N capI)
  hL : w0.cell? ⟨pL, 0, none⟩ = some (.slice (some ⟨gL, oL, none⟩) N capL)
  hT : w0.cell? ⟨pT, 0, none⟩ = some (.func (.func 74) #[] #[.pointer (some ⟨pG, 0, none⟩)])
  aI : AtI n0 w0 (.slice (some ⟨gI, oI, none⟩) N capI) (P.map leafI)
  aL : AtF n0 w0 (.slice (some ⟨gL, oL, none⟩) N capL) P
  call : ∀ w n b, Below n0 w0 w → Calls Tryz.prog 74 #[.agg (cellsP n b), .pointer (some ⟨pG, 0, none⟩)] w fun e w' => e = .returned (.bool (t n b)) ∧ Below w.heap.size w w'
  rise : RiseI (P.map leafI)
  cubes : Cubes w0
  lim : N ≤ 400000
  cap : N ≤ capI
  max : capI ≤ maxLen
theorem eg_cover1 : ∀ args w, (callFunc 45 args).run Tryz.prog w = .ok (.enter 45 args) w := enters_of Tryz.func45 (by kernel_rfl) rfl
theorem eg_among1 : ∀ args w, (callFunc 74 args).run Tryz.prog w = .ok (.enter 74 args) w := enters_of Tryz.func74 (by kernel_rfl) rfl

set_option maxRecDepth 100000 in
set_option maxHeartbeats 4000000 in
theorem paCover1_any {w0 : World} {n0 N pI pT pL pG gI oI capI gL oL capL : Nat} {P : List Lf} {t : Int → Lab → Bool} (F : CovF w0 n0 N pI pT pL pG gI oI capI gL oL capL P t) (B pS pU pO : Nat) (hB : n0 ≤ B) (hpS : n0 ≤ pS) (hpU : n0 ≤ pU) :
    ∀ (f fr en : Nat) (us uu : Value) (S : List Itm) (U : List Lf) (w : World), en - fr ≤ f → fr < en → en ≤ N → Below n0 w0 w → B ≤ w.heap.size →
      CovW w B pS pU pO (.func (.func 45) #[] #[.pointer (some ⟨pI, 0, none⟩), .pointer (some ⟨pT, 0, none⟩), .pointer (some ⟨pS, 0, none⟩), .pointer (some ⟨pU, 0, none⟩), .pointer (some ⟨pL, 0, none⟩), .pointer (some ⟨pO, 0, none⟩)]) us uu S U →
      S.length + (en - fr) ≤ 1000000 → U.length + (en - fr) ≤ 1000000 →
      Calls Tryz.prog 45 #[.int .i64 fr, .int .i64 en, .pointer (some ⟨pI, 0, none⟩), .pointer (some ⟨pT, 0, none⟩), .pointer (some ⟨pS, 0, none⟩), .pointer (some ⟨pU, 0, none⟩), .pointer (some ⟨pL, 0, none⟩), .pointer (some ⟨pO, 0, none⟩)] w fun e w' => e = .returned (.tuple #[]) ∧
        (∃ us' uu', CovW w' B pS pU pO (.func (.func 45) #[] #[.pointer (some ⟨pI, 0, none⟩), .pointer (some ⟨pT, 0, none⟩), .pointer (some ⟨pS, 0, none⟩), .pointer (some ⟨pU, 0, none⟩), .pointer (some ⟨pL, 0, none⟩), .pointer (some ⟨pO, 0, none⟩)]) us' uu' (S ++ (covF f t ((P.drop fr).take (en - fr))).1) (U ++ (covF f t ((P.drop fr).take (en - fr))).2)) ∧ Below n0 w0 w' ∧ B ≤ w'.heap.size := by
  intro f
  induction f with
  | zero => intro fr en us uu S U w h1 h2; omega
  | succ f ih =>
    intro fr en us uu S U w hf hlt hto hb hBw C hS hU
    obtain ⟨m, hm⟩ : ∃ m, en - fr = m := ⟨_, rfl⟩
    have c1 : w.cell? ⟨pI, 0, none⟩ = some (.slice (some ⟨gI, oI, none⟩) N capI) := (hb.cell (p := ⟨pI, 0, none⟩) (by rw [← F.hn]; exact cellLt F.hI)).trans F.hI
    have c3 : w.cell? ⟨pT, 0, none⟩ = some (.func (.func 74) #[] #[.pointer (some ⟨pG, 0, none⟩)]) := (hb.cell (p := ⟨pT, 0, none⟩) (by rw [← F.hn]; exact cellLt F.hT)).trans F.hT
    have c2 : w.cell? ⟨pL, 0, none⟩ = some (.slice (some ⟨gL, oL, none⟩) N capL) := (hb.cell (p := ⟨pL, 0, none⟩) (by rw [← F.hn]; exact cellLt F.hL)).trans F.hL
    have hcap := F.cap
    have hmax := F.max
    have hlim := F.lim
    have hn0 : n0 ≤ w.heap.size := by have := hb.size; have := F.hn; omega
    obtain ⟨Q, hQ⟩ : ∃ Q, (P.drop fr).take m = Q := ⟨_, rfl⟩
    have hQl : Q.length = m := by rw [← hQ, List.length_take, List.length_drop, F.hN]; omega
    have hQ0 : ∀ d, Q.getD 0 d = P.getD fr d := fun d => by
      rw [← hQ, List.getD_eq_getElem?_getD, List.getD_eq_getElem?_getD, List.getElem?_take, if_pos (by omega), List.getElem?_drop, Nat.add_zero]
    obtain ⟨I, hI⟩ : ∃ I, Q.map leafI = I := ⟨_, rfl⟩
    have hIl : I.length = m := by rw [← hI, List.length_map, hQl]
    have hIp : ((P.map leafI).drop fr).take m = I := by rw [← hI, ← hQ, List.map_take, List.map_drop]
    have hR : RiseI I := by
      rw [← hIp]
      exact List.Pairwise.sublist ((List.take_sublist _ _).trans (List.drop_sublist _ _)) F.rise
    have A1 : AtI w.heap.size w (.slice (some ⟨gI, oI + fr * 66, none⟩) I.length (capI - fr)) I := by
      have h1 := F.aI
      rw [← F.hN, show P.length = (P.map leafI).length from (List.length_map _).symm] at h1
      have h2 := h1.part (fr := fr) (en := en) (by omega) (by rw [List.length_map, F.hN]; exact hto)
      rw [hm, hIp, ← hIl] at h2
      exact AtI.below (AtI.below h2 (Nat.le_refl _) hb) hn0 (Below.refl _ _)
    have HOV : Hid (∀ w2, Below w.heap.size w w2 → Calls Tryz.prog 46 #[.slice (some ⟨gI, oI + fr * 66, none⟩) m (capI - fr)] w2 fun e w' => e = .returned (.agg (cellsP (overL I).1 (overL I).2)) ∧ Below w2.heap.size w2 w') := fun w2 h2 => by
      have := paOver_any I (some ⟨gI, oI + fr * 66, none⟩) (capI - fr) w2 (by omega) (by omega) (AtI.below (A1.below (Nat.le_refl _) h2) h2.size (Below.refl _ _))
      rwa [hIl] at this
    have HTO : Hid (∀ w2, Below w.heap.size w w2 → Calls Tryz.prog 74 #[.agg (cellsP (overL I).1 (overL I).2), .pointer (some ⟨pG, 0, none⟩)] w2 fun e w' => e = .returned (.bool (t (overL I).1 (overL I).2)) ∧ Below w2.heap.size w2 w') := fun w2 h2 => F.call _ _ _ (hb.trans (h2.mono hn0))
    have HW : Hid (∀ w2, Below w.heap.size w w2 → Calls Tryz.prog 34 #[.slice (some ⟨gI, oI + fr * 66, none⟩) m (capI - fr)] w2 fun e w' => e = .returned (.agg (cellsI (wholeF m I))) ∧ Below w2.heap.size w2 w') := fun w2 h2 => by
      have := paWhole_any m I (some ⟨gI, oI + fr * 66, none⟩) (capI - fr) w2 (by omega) (by omega) hR (by omega) (by omega) (by omega) (F.cubes.below (by rw [F.hn]; exact hb.trans (h2.mono hn0))) (AtI.below (A1.below (Nat.le_refl _) h2) h2.size (Below.refl _ _))
      rwa [hIl] at this
    have HFK : Hid (∀ w2, Below w.heap.size w w2 → Calls Tryz.prog 47 #[.slice (some ⟨gI, oI + fr * 66, none⟩) m (capI - fr)] w2 fun e w' => (∃ c : Nat, e = .returned (.int .i64 c) ∧ ForkAt I c) ∧ Below w2.heap.size w2 w') := fun w2 h2 => by
      have := paFork_any (.slice (some ⟨gI, oI + fr * 66, none⟩) I.length (capI - fr)) I (by omega) (by omega) (fork_mono hR) w2 (AtI.below (A1.below (Nat.le_refl _) h2) h2.size (Below.refl _ _))
      rwa [hIl] at this
    have HV : Hid (covF (f + 1) t ((P.drop fr).take m) = if t (overL I).1 (overL I).2 = false then ([wholeF m I], []) else if m = 1 then ([], Q) else ((covF f t (Q.take (forkC I))).1 ++ (covF f t (Q.drop (forkC I))).1, (covF f t (Q.take (forkC I))).2 ++ (covF f t (Q.drop (forkC I))).2)) := by
      show _ = _
      rw [hQ, covF, hI, hQl]
    have HAL : Hid (AtF w.heap.size w (.slice (some ⟨gL, oL, none⟩) N capL) P) := AtF.below (AtF.below F.aL (Nat.le_refl _) hb) hn0 (Below.refl _ _)
    have HC := Lib.hid C
    have HIH := Lib.hid ih
    have HB := Lib.hid hb
    have HF := Lib.hid F
    have HR := Lib.hid hR
    have HQ0 := Lib.hid hQ0
    have HQ := Lib.hid hQ
    have HIl := Lib.hid hIl
    have HQl := Lib.hid hQl
    have HI := Lib.hid hI
    have hUm : U.length + m ≤ 1000000 := by omega
    have hSm : S.length + m ≤ 1000000 := by omega
    have q1 : (fr : Int) ≤ en := by omega
    have q2 : (en : Int) ≤ capI := by omega
    have p3 := fun x : Past w => (Past.cell (cellLt c3) x).trans c3
    have eg1 := eg_among1
    have hfr : fr + m = en := by omega
    have hm0 : 0 < m := by omega
    rw [hm] at hf ⊢
    clear ih hb C F hQ0 hQ hIl hQl hI hIp hR A1 hS hU c3
    generalize hT : t (overL I).1 (overL I).2 = T at HTO HV
    clear hT
    generalize (overL I).1 = on at HOV HTO
    generalize (overL I).2 = ob at HOV HTO
    cases T
    · have HV1 : Hid (covF (f + 1) t ((P.drop fr).take m) = ([wholeF m I], [])) := by
        show _ = _
        rw [HV.out, if_pos rfl]
      rw [HV1.out]
      clear HFK HV HAL HIH HR HQ0 HQ HI hf
      generalize wholeF m I = X at HW ⊢
      go_enter Tryz.func45, Tryz.ntmps45
      go_upto_region 4 with (fail)
      clear hm
      refine wp_region_past (by kernel_rfl) (by kernel_rfl) ?_
      iterate 2 go_big_quiet_step (fail)
      go_big_quiet_step (exact Past.call (HOV.out _ (Past.h _)))
      go_big_quiet_step (exact Past.call (HTO.out _ (Past.h _)))
      iterate 2 go_big_quiet_step (fail)
      refine wpQuiet_nil ?_
      intro wn hw2
      obtain ⟨⟨wx, hn⟩, rfl⟩ := hw2
      try dsimp only
      have C2 := HC.out.below hn
      have hz := hn.size
      obtain ⟨ao, cap, rfl⟩ := C2.os.shape
      obtain ⟨n, hnS⟩ : ∃ n, S.length = n := ⟨_, rfl⟩
      have k4 : wn.cell? ⟨pS, 0, none⟩ = some (.slice ao S.length cap) := (Lib.cell_of_heap C2.hs 0).trans rfl
      have p4 := fun x : Past wn => (Past.cell (cellLt k4) x).trans k4
      have C3 := Lib.hid C2
      have HN := Lib.hid hnS
      rw [hnS] at p4
      clear HOV HTO HC C2 k4 c1 p3 hnS
      go_wp2_with fail
      obtain ⟨R, hR⟩ : ∃ R : Nat → Value → World → Prop, R 3 = (fun v W' => ∃ g, v = .slice (some ⟨g, 0, none⟩) 1 1 ∧ rowAt W' g = some (cellsI X)) := ⟨fun _ => _, rfl⟩
      have HST : Hid (∀ i ∈ [3], ∃ v W', Below wn.heap.size wn W' ∧ R i v W') := Lib.hid (by
        intro i hi
        obtain rfl := List.mem_singleton.1 hi
        rw [hR]
        exact ⟨_, wn.alloc (.cells (cellsI X) 68), (Below.refl _ _).alloc (Nat.le_refl _) _, wn.heap.size, rfl, rowAt_of_heap (World.alloc_heap_new _ _)⟩)
      refine wp_region_tok [3] (3 + 1) R (by kernel_rfl) (by kernel_rfl) HST.out ?_
      intro τ hτ
      rcases e1 : τ 3 with ⟨v1, W1⟩
      have t1 := hτ 3 (by simp)
      rw [e1, hR] at t1
      dsimp only at t1
      obtain ⟨hb1, g1, rfl, hc1⟩ := t1
      clear HST hτ
      simp only [List.take_succ_cons, List.take_zero]
      iterate 2 (refine tokL_val (by decide) (by kernel_rfl) rfl ?_; intro K hK; go_big_quiet_op; go_big_quiet_on)
      refine tokL_call (by decide) (by kernel_rfl) (by kernel_rfl) ?_
      apply Exists.intro
      refine And.intro ?_ ?_
      focus
        intro x hg
        unfold Oper.quietAt
        go_simp
        (exact call_yields (HW.out _ (hn.trans (x.h.mono hz))))
      simp only [Act.put, List.setIfInBounds_toArray, List.set_cons_succ, List.set_cons_zero]
      refine tokL_tok e1 (by decide) (by kernel_rfl) ?_ ?_
      focus
        intro x hg
        unfold wildAt
        go_simp
        (first | exact (Below.refl _ _).alloc (Nat.le_refl _) _ | exact ⟨(Below.refl _ _).alloc (Nat.le_refl _) _, rowAt_of_heap (World.alloc_heap_new _ _)⟩)
      simp only [Act.put, List.setIfInBounds_toArray, List.set_cons_succ, List.set_cons_zero]
      refine tokL_nil ?_
      simp only [List.drop_succ_cons, List.drop_zero]
      intro z hz3
      have bz := hz3.1
      have rz : rowAt z g1 = some (cellsI X) := rowAt_past (by have := hz3.2 3 (by simp) rfl; rw [e1] at this; exact this) hc1
      clear hz3 hc1 hb1 e1 hR
      clear HW p4
      have C4 := C3.out.below bz
      have hz3 := bz.size
      have B4 : Below n0 w0 z := (HB.out.trans (hn.mono hn0)).trans (bz.mono (by omega))
      rw [HN.out] at C4
      have C6 := Lib.hid C4
      have B5 := Lib.hid B4
      have O5 : OwnI z B (.slice ao n cap) S := C4.os
      have hlen : S.length ≤ 1000000 := by omega
      have hB4 : B ≤ z.heap.size := by omega
      clear C3 C4 B4 bz
      go_wp2_with (at_builtin; refine wpList_putI rfl _ _ rfl B _ S rfl O5 X g1 1 rfl rz hB4 hlen ?_; intro v' w' u1 u2 _; have h6 := (grown_opt u2 _ (heap_ltC C6.out.hs) (C6.out.os.apart C6.out.hs items_ne_item)).trans C6.out.hs; have k6 : w'.cell? ⟨pS, 0, none⟩ = some (.slice ao n cap) := (Lib.cell_of_heap h6 0).trans rfl; have f6 := Lib.frozen_of_heap h6 0; obtain ⟨ao', cap', rfl⟩ := u1.shape; have C7 := Lib.hid (C6.out.putS u1 u2); have B7 := Lib.hid ((B5.out.grown u2 (by omega) (fun k e => Nat.le_trans hB (O5.block e).1)).setCell (p := ⟨pS, 0, none⟩) hpS (.slice ao' (S ++ [X]).length cap')); have s7 : B ≤ (w'.setCell ⟨pS, 0, none⟩ (.slice ao' (S ++ [X]).length cap')).heap.size := Nat.le_trans hB4 (Nat.le_trans u2.size (setC_grown _ _ _ _).size); have S7 := Lib.hid s7; clear u1 u2 h6 C6 B5 s7 O5 rz)
      rw [List.length_append] at C7 B7 S7
      go_end0
      rw [List.append_nil]
      exact ⟨rfl, ⟨_, _, C7.out⟩, B7.out, S7.out⟩
    · have hUU := trivial
      obtain ⟨n, hnU⟩ : ∃ n, U.length = n := ⟨_, rfl⟩
      by_cases h1 : m = 1
      · have HV1 : Hid (covF (f + 1) t ((P.drop fr).take m) = ([], Q)) := by
          show _ = _
          rw [HV.out, if_neg (by decide), if_pos h1]
        rw [HV1.out]
        subst h1
        obtain ⟨ao0, cap0, e1, hA2⟩ := HAL.out
        injection e1 with e1 e2 e3
        subst e1
        obtain ⟨g, o, cur, hgo, hg, hr, hs, hx⟩ := hA2 fr (by rw [HF.out.hN]; omega)
        cases hgo
        clear hA2 e2 e3
        obtain ⟨X, hX⟩ : ∃ X, P.getD fr zeroLf = X := ⟨_, rfl⟩
        rw [hX] at hx
        have hQX : Hid (Q = [X]) := by
          show Q = [X]
          have hl := HQl.out
          match Q, hl, HQ0.out zeroLf with
          | [y], _, h => rw [hX] at h; rw [show y = X from h]
        have s1 : oL + fr * 65 + 65 ≤ cur.size := by omega
        have hfN : fr < N := by omega
        have hfNi : (fr : Int) < N := by omega
        clear HFK HV HIH HR HQ0 HQ HI hf HW HAL hs HQl hg
        go_enter Tryz.func45, Tryz.ntmps45
        go_upto_region 4 with (fail)
        clear hm
        refine wp_region_past (by kernel_rfl) (by kernel_rfl) ?_
        iterate 2 go_big_quiet_step (fail)
        go_big_quiet_step (exact Past.call (HOV.out _ (Past.h _)))
        go_big_quiet_step (exact Past.call (HTO.out _ (Past.h _)))
        iterate 2 go_big_quiet_step (fail)
        refine wpQuiet_nil ?_
        intro wn hw2
        obtain ⟨⟨wx, hn⟩, rfl⟩ := hw2
        try dsimp only
        have C2 := HC.out.below hn
        have hz := hn.size
        obtain ⟨ao, cap, rfl⟩ := C2.ou.shape
        have k4 : wn.cell? ⟨pU, 0, none⟩ = some (.slice ao U.length cap) := (Lib.cell_of_heap C2.hu 0).trans rfl
        have p4 := fun x : Past wn => (Past.cell (cellLt k4) x).trans k4
        have k5 := (hn.cell (p := ⟨pL, 0, none⟩) (cellLt c2)).trans c2
        have p5 := fun x : Past wn => (Past.cell (cellLt k5) x).trans k5
        have p6 := fun x : Past wn => Past.row (rowAt_past hn hr) x
        have C3 := Lib.hid C2
        have HN := Lib.hid hnU
        rw [hnU] at p4
        clear HOV HTO HC C2 k4 k5 c1 c2 p3 hnU hr
        go_wp2_with fail
        obtain ⟨R, hR⟩ : ∃ R : Nat → Value → World → Prop, R 5 = (fun v W' => ∃ g, v = .slice (some ⟨g, 0, none⟩) 1 1 ∧ rowAt W' g = some (cellsF X)) := ⟨fun _ => _, rfl⟩
        have HST : Hid (∀ i ∈ [5], ∃ v W', Below wn.heap.size wn W' ∧ R i v W') := Lib.hid (by
          intro i hi
          obtain rfl := List.mem_singleton.1 hi
          rw [hR]
          exact ⟨_, wn.alloc (.cells (cellsF X) 51), (Below.refl _ _).alloc (Nat.le_refl _) _, wn.heap.size, rfl, rowAt_of_heap (World.alloc_heap_new _ _)⟩)
        refine wp_region_tok [5] (5 + 1) R (by kernel_rfl) (by kernel_rfl) HST.out ?_
        intro τ hτ
        rcases e1 : τ 5 with ⟨v1, W1⟩
        have t1 := hτ 5 (by simp)
        rw [e1, hR] at t1
        dsimp only at t1
        obtain ⟨hb1, g1, rfl, hc1⟩ := t1
        clear HST hτ
        simp only [List.take_succ_cons, List.take_zero]
        iterate 5 (refine tokL_val (by decide) (by kernel_rfl) rfl ?_; intro K hK; go_big_quiet_op; go_big_quiet_on)
        refine tokL_tok e1 (by decide) (by kernel_rfl) ?_ ?_
        focus
          intro x hg
          unfold wildAt
          go_simp
          (first | exact (Below.refl _ _).alloc (Nat.le_refl _) _ | exact ⟨(Below.refl _ _).alloc (Nat.le_refl _) _, rowAt_of_heap (World.alloc_heap_new _ _)⟩)
        simp only [Act.put, List.setIfInBounds_toArray, List.set_cons_succ, List.set_cons_zero]
        refine tokL_nil ?_
        simp only [List.drop_succ_cons, List.drop_zero]
        intro z hz3
        have bz := hz3.1
        have rz : rowAt z g1 = some (cellsF X) := rowAt_past (by have := hz3.2 5 (by simp) rfl; rw [e1] at this; exact this) hc1
        clear hz3 hc1 hb1 e1 hR
        clear p4 p5 p6
        have C4 := C3.out.below bz
        have hz3 := bz.size
        have B4 : Below n0 w0 z := (HB.out.trans (hn.mono hn0)).trans (bz.mono (by omega))
        rw [HN.out] at C4
        have C6 := Lib.hid C4
        have B5 := Lib.hid B4
        have O5 : OwnF z B (.slice ao n cap) U := C4.ou
        have hlen : U.length ≤ 1000000 := by omega
        have hB4 : B ≤ z.heap.size := by omega
        clear C3 C4 B4 bz
        go_wp2_with (at_builtin; refine wpList_putF rfl _ _ rfl B _ U rfl O5 X g1 1 rfl rz hB4 hlen ?_; intro v' w' u1 u2 _; have h6 := (grown_opt u2 _ (heap_ltC C6.out.hu) (C6.out.ou.apart C6.out.hu leaves_ne_leaf)).trans C6.out.hu; have k6 : w'.cell? ⟨pU, 0, none⟩ = some (.slice ao n cap) := (Lib.cell_of_heap h6 0).trans rfl; have f6 := Lib.frozen_of_heap h6 0; obtain ⟨ao', cap', rfl⟩ := u1.shape; have C7 := Lib.hid (C6.out.putU u1 u2); have B7 := Lib.hid ((B5.out.grown u2 (by omega) (fun k e => Nat.le_trans hB (O5.block e).1)).setCell (p := ⟨pU, 0, none⟩) hpU (.slice ao' (U ++ [X]).length cap')); have s7 : B ≤ (w'.setCell ⟨pU, 0, none⟩ (.slice ao' (U ++ [X]).length cap')).heap.size := Nat.le_trans hB4 (Nat.le_trans u2.size (setC_grown _ _ _ _).size); have S7 := Lib.hid s7; clear u1 u2 h6 C6 B5 s7 O5 rz)
        rw [List.length_append] at C7 B7 S7
        go_end0
        rw [List.append_nil, hQX.out]
        exact ⟨rfl, ⟨_, _, C7.out⟩, B7.out, S7.out⟩
      · have hmi : ¬ (m : Int) = 1 := by omega
        have HV1 : Hid (covF (f + 1) t ((P.drop fr).take m) = ((covF f t (Q.take (forkC I))).1 ++ (covF f t (Q.drop (forkC I))).1, (covF f t (Q.take (forkC I))).2 ++ (covF f t (Q.drop (forkC I))).2)) := by
          show _ = _
          rw [HV.out, if_neg (by decide), if_neg h1]
        rw [HV1.out]
        clear HV HW HAL HQ0 hnU n hUU c2 HV1
        obtain ⟨K1, hK1⟩ : ∃ K1, covF f t (Q.take (forkC I)) = K1 := ⟨_, rfl⟩
        obtain ⟨K2, hK2⟩ : ∃ K2, covF f t (Q.drop (forkC I)) = K2 := ⟨_, rfl⟩
        rw [hK1, hK2, ← List.append_assoc, ← List.append_assoc]
        have HK1 := Lib.hid hK1
        have HK2 := Lib.hid hK2
        clear hK1 hK2
        go_enter Tryz.func45, Tryz.ntmps45
        go_upto_region 4 with (fail)
        clear hm
        refine wp_region_past (by kernel_rfl) (by kernel_rfl) ?_
        iterate 2 go_big_quiet_step (fail)
        go_big_quiet_step (exact Past.call (HOV.out _ (Past.h _)))
        go_big_quiet_step (exact Past.call (HTO.out _ (Past.h _)))
        iterate 2 go_big_quiet_step (fail)
        refine wpQuiet_nil ?_
        intro wn hw2
        obtain ⟨⟨wx, hn⟩, rfl⟩ := hw2
        try dsimp only
        have C2 := HC.out.below hn
        have hz := hn.size
        have HFW := Lib.hid (HFK.out wn hn)
        have C3 := Lib.hid C2
        clear HOV HTO HC C2 c1 p3 HFK
        go_wp2_with fail
        refine HFW.out.mono ?_
        rintro e w3 ⟨⟨c, rfl, hc⟩, b3⟩
        obtain ⟨hc0, hcl⟩ := hc.inside HR.out (by rw [HIl.out]; omega)
        have hcC := hc.eq
        rw [HIl.out] at hcl
        obtain ⟨md, hmd⟩ : ∃ md, fr + c = md := ⟨_, rfl⟩
        have hmdz : IntKind.i64.wrap ((fr : Int) + (c : Int)) = (md : Int) := by rw [IntWalk.i64_in _ (by omega)]; omega
        have B3 : Below n0 w0 w3 := (HB.out.trans (hn.mono hn0)).trans (b3.mono (by omega))
        have C4 := C3.out.below b3
        have hz3 := b3.size
        have eL : (P.drop fr).take (md - fr) = Q.take c := by
          rw [← HQ.out, List.take_take, show md - fr = min c m by omega]
        have eR : (P.drop md).take (en - md) = Q.drop c := by
          rw [← HQ.out, List.drop_take, List.drop_drop, show en - md = m - c by omega, show fr + c = md from hmd]
        have H1 := HIH.out fr md us uu S U w3 (by omega) (by omega) (by omega) B3 (by omega) C4 (by omega) (by omega)
        rw [hcC] at eL eR
        rw [eL, HK1.out] at H1
        have EG := eg_cover1
        have HH1 := Lib.hid H1
        have HR2 := Lib.hid eR
        have k7 := (Lib.cell_of_heap C4.ho 0).trans rfl
        have HL1 : Hid (K1.1.length ≤ c ∧ K1.2.length ≤ c) := by
          have hl : (Q.take (forkC I)).length = c := by rw [List.length_take, HQl.out, ← hcC]; omega
          have := covF_len f t (Q.take (forkC I)) (by omega) (by rw [List.map_take, HI.out]; exact HR.out.take _)
          rw [HK1.out, hl] at this
          exact this
        clear H1 C3 C4 HFW hcC eL eR b3 B3 hc eg1
        go_wp2_with fail
        refine HH1.out.mono ?_
        rintro e w4 ⟨rfl, ⟨us2, uu2, C5⟩, B4, s4⟩
        obtain ⟨l1, l2⟩ := HL1.out
        have H2 := HIH.out md en us2 uu2 (S ++ K1.1) (U ++ K1.2) w4 (by omega) (by omega) hto B4 s4 C5 (by rw [List.length_append]; omega) (by rw [List.length_append]; omega)
        rw [HR2.out, HK2.out] at H2
        have HH2 := Lib.hid H2
        have k8 := (Lib.cell_of_heap C5.ho 0).trans rfl
        clear H2 C5 HH1 k7 B4 s4 HIH
        go_wp2_with fail
        refine HH2.out.mono ?_
        rintro e w5 ⟨rfl, ⟨us3, uu3, C6⟩, B5, s5⟩
        have C7 := Lib.hid C6
        have B6 := Lib.hid B5
        have S6 := Lib.hid s5
        clear HH2 C6 B5 s5 k8
        go_wp2
        go_end0
        exact ⟨rfl, ⟨_, _, C7.out⟩, B6.out, S6.out⟩
end Go.Proofs.YtmabigcolabbmaaGreatDoor
namespace Go.Proofs.YtmabigcolabbmaaGreatDoor
open Go Go.RowKit Go.Sort Go.Lib

def topField (v : Value) : Sem Value := Instr.field 68 v 1
@[go_sem ↓] theorem topField_of (v : Value) : Instr.field 68 v 1 = topField v := rfl
set_option maxRecDepth 100000 in
@[go_sem] theorem run_topField (x : Itm) (w : World) : (topField (.agg (cellsI x))).run Tryz.prog w = .ok (.agg (cellsL x.s)) w := by
  have hp : (part 27 (cellsI x) 33).run Tryz.prog w = .ok (.agg (cellsL x.s)) w := by
    have h1 : (isAgg 27).run Tryz.prog w = .ok true w := by kernel_rfl
    have h2 : (sizeOf 27).run Tryz.prog w = .ok 32 w := by kernel_rfl
    simp only [part, Sem.run_bind, h1, h2, Result.andThen_ok, if_true, Sem.run_pure]
    rw [extract_I2]
  have hf : ∀ {fs : Array Field} {f : Field}, Tryz.prog.underlying 68 = some (.struct fs) → fs[1]? = some f → (topField (.agg (cellsI x))).run Tryz.prog w = (part f.type (cellsI x) f.offset).run Tryz.prog w := fun hu hf => by
    simp only [topField, Instr.field, Sem.run_bind, run_underlying hu, Result.andThen_ok, hf, asAgg, Sem.run_pure]
  exact (hf Tryz.underlying68 rfl).trans hp
theorem chkI_zero {x y : Itm} (h : chkI x y = 0) : order x.b y.b < 0 := by
  unfold chkI at h
  split at h
  · split at h
    · omega
    · rename_i q
      have : order x.b y.b = -1 := by
        by_cases e : order x.b y.b = -1
        · exact e
        · exact absurd (.inr (.inr e)) q
      omega
  · omega
theorem chkR_rise : ∀ (L : List Itm), chkR L = 0 → RiseI L := by
  intro L
  induction L with
  | nil => intro _; exact List.Pairwise.nil
  | cons x r ih =>
    intro h
    cases r with
    | nil => exact List.pairwise_singleton _ _
    | cons y r =>
      rw [chkR] at h
      split at h
      · rename_i h1
        have h2 := ih h
        have h3 := chkI_zero h1
        refine List.Pairwise.cons (fun z hz => ?_) h2
        rcases List.mem_cons.1 hz with rfl | hz
        · exact h3
        · have h4 := (List.pairwise_cons.1 h2).1 z hz
          exact of_decide_eq_true ((weak_order fun x : Itm => x.b).tr x y z (decide_eq_true h3) (decide_eq_true h4))
      · omega
theorem chkL_rise {L : List Itm} (h : chkL L = 0) : RiseI L := by
  by_cases hb : 2000 < L.length
  · unfold chkL at h
    rw [if_pos hb] at h
    omega
  · cases L with
    | nil => exact List.Pairwise.nil
    | cons x r =>
      rw [chkL_cons x r hb] at h
      split at h
      · omega
      · exact chkR_rise _ h
def topL (L : List Itm) : Lab × Int := if chkL L ≠ 0 then (zeroLab, chkL L) else if L.length = 0 then (shaLab [18], 0) else ((wholeF L.length L).s, 0)
set_option maxRecDepth 100000 in
set_option maxHeartbeats 2000000 in
theorem paTop_any (L : List Itm) (ao : Option Addr) (cap : Nat) (w : World) (hL : L.length ≤ 1000000) (hcap : L.length ≤ cap) (hmax : cap ≤ maxLen) (ht : Cubes w) (hA : AtI w.heap.size w (.slice ao L.length cap) L) :
    Calls Tryz.prog 11 #[.slice ao L.length cap] w fun e w' => e = .returned (.tuple #[.agg (cellsL (topL L).1), .int .i64 (topL L).2]) ∧ Below w.heap.size w w' := by
  have b0 : Below w.heap.size w (w.alloc (.cells (cellsL zeroLab) 27)) := (Below.refl _ _).alloc (Nat.le_refl _) _
  have r0 : rowAt (w.alloc (.cells (cellsL zeroLab) 27)) w.heap.size = some (cellsL zeroLab) := rowAt_alloc_at _ _ _ _ rfl
  have hsz : w.heap.size ≤ (w.alloc (.cells (cellsL zeroLab) 27)).heap.size := by rw [World.size_alloc]; omega
  have A1 : AtI (w.alloc (.cells (cellsL zeroLab) 27)).heap.size (w.alloc (.cells (cellsL zeroLab) 27)) (.slice ao L.length cap) L := AtI.below (hA.below (Nat.le_refl _) b0) hsz (Below.refl _ _)
  have HC := Lib.hid (paCheck_any (.slice ao L.length cap) L hL _ A1)
  have HT := Lib.hid (ht.below b0)
  have HA := Lib.hid A1
  have HE : Hid (∀ w2, Cubes w2 → Calls Tryz.prog 33 #[] w2 fun e w' => e = .returned (.agg (cellsL (shaLab [18]))) ∧ Below w2.heap.size w2 w') := fun w2 h => nEmpty_any w2 h
  have HW : Hid (∀ w2, 0 < L.length → chkL L = 0 → Cubes w2 → AtI w2.heap.size w2 (.slice ao L.length cap) L → Calls Tryz.prog 34 #[.slice ao L.length cap] w2 fun e w' => e = .returned (.agg (cellsI (wholeF L.length L))) ∧ Below w2.heap.size w2 w') := fun w2 h0 hc h1 h2 => paWhole_any L.length L ao cap w2 (Nat.le_refl _) h0 (chkL_rise hc) hL hcap hmax h1 h2
  obtain ⟨m, hm⟩ : ∃ m, L.length = m := ⟨_, rfl⟩
  have hm1 : (m : Int) ≤ 1000000 := by omega
  have HTO : Hid (topL L = if chkL L ≠ 0 then (zeroLab, chkL L) else if m = 0 then (shaLab [18], 0) else ((wholeF m L).s, 0)) := by rw [← hm]; exact rfl
  rw [hm] at HC HW HA ⊢
  generalize hE : chkL L = E at HC HW HTO
  generalize wholeF m L = X at HW HTO
  generalize shaLab [18] = Z at HE HTO
  generalize hTT : topL L = T at *
  clear hA A1 ht hL hcap hmax hm
  by_cases h1 : E = 0
  · subst h1
    by_cases h2 : m = 0
    · have hT : T = (Z, 0) := by rw [HTO.out, if_neg (by omega), if_pos h2]
      subst hT
      subst h2
      clear HTO hTT
      go_enter Tryz.func11, Tryz.ntmps11
      go_wp2_with fail
      generalize w.alloc (.cells (cellsL zeroLab) 27) = W at *
      refine HC.out.mono ?_
      rintro e w2 ⟨rfl, b2⟩
      have b3 := below_past b0 b2 b0.size
      have r2 := rowAt_past b2 r0
      have HE2 := Lib.hid (HE.out w2 (HT.out.below b2))
      clear b0 b2 r0 HC HE HW HT HA
      go_wp2_with fail
      refine HE2.out.mono ?_
      rintro e w3 ⟨rfl, b4⟩
      have b5 := below_past b3 b4 b3.size
      have r4 := rowAt_past b4 r2
      clear b3 b4 r2 HE2
      go_wp2_with fail
      exact row_ret_lab2 rfl rfl rfl (rowAt_setRow_same r4 _) ⟨rfl, Below.setRow b5 (Nat.le_refl _) _⟩
    · have hT : T = (X.s, 0) := by rw [HTO.out, if_neg (by omega), if_neg h2]
      subst hT
      have hmi : ¬ (m : Int) = 0 := by omega
      have h0 : 0 < m := by omega
      clear HTO hTT
      go_enter Tryz.func11, Tryz.ntmps11
      go_wp2_with fail
      generalize w.alloc (.cells (cellsL zeroLab) 27) = W at *
      refine HC.out.mono ?_
      rintro e w2 ⟨rfl, b2⟩
      have b3 := below_past b0 b2 b0.size
      have r2 := rowAt_past b2 r0
      have HE2 := Lib.hid (HW.out w2 h0 (by first | trivial | rfl) (HT.out.below b2) (AtI.below (HA.out.below (Nat.le_refl _) b2) b2.size (Below.refl _ _)))
      clear b0 b2 r0 HC HE HW HT HA
      go_wp2_with fail
      refine HE2.out.mono ?_
      rintro e w3 ⟨rfl, b4⟩
      have b5 := below_past b3 b4 b3.size
      have r4 := rowAt_past b4 r2
      clear b3 b4 r2 HE2
      go_wp2_with fail
      exact row_ret_lab2 rfl rfl rfl (rowAt_setRow_same r4 _) ⟨rfl, Below.setRow b5 (Nat.le_refl _) _⟩
  · have hT : T = (zeroLab, E) := by rw [HTO.out, if_pos h1]
    subst hT
    have qe : (E != 0) = true := by rw [bne_iff_ne]; exact h1
    clear HTO hTT
    go_enter Tryz.func11, Tryz.ntmps11
    go_wp2_with fail
    generalize w.alloc (.cells (cellsL zeroLab) 27) = W at *
    refine HC.out.mono ?_
    rintro e w2 ⟨rfl, b2⟩
    have b3 := below_past b0 b2 b0.size
    have r2 := rowAt_past b2 r0
    clear b0 b2 r0 HC HE HW HT HA
    go_wp2_with fail
    exact row_ret_lab2 rfl rfl rfl (rowAt_setRow_same r2 _) ⟨rfl, Below.setRow b3 (Nat.le_refl _) _⟩
end Go.Proofs.YtmabigcolabbmaaGreatDoor
namespace Go.Proofs.YtmabigcolabbmaaGreatDoor
open Go Go.RowKit Go.Sort Go.Lib

set_option maxRecDepth 100000 in
set_option maxHeartbeats 2000000 in
theorem paOf_any (v : Value) (L : List Lf) (hL : L.length ≤ 1000000) (w : World) (ht : Cubes w) (hA : AtF w.heap.size w v L) :
    Calls Tryz.prog 23 #[v] w fun e w' => ∃ u, e = .returned u ∧ OwnI w' w.heap.size u (isortL (ltOf ordI) (L.map leafI)) ∧ Below w.heap.size w w' := by
  obtain ⟨ao, cap, rfl, hA2⟩ := hA
  obtain ⟨B, hB⟩ : ∃ B, w.heap.size = B := ⟨_, rfl⟩
  obtain ⟨m, hm⟩ : ∃ m, L.length = m := ⟨_, rfl⟩
  have HM : Hid (L.length = m) := hm
  have HB : Hid (w.heap.size = B) := hB
  have hm1 : (m : Int) ≤ 1000000 := by omega
  have HA := Lib.hid hA2
  have HT := Lib.hid ht
  have b0 : Below B w w := Below.refl _ _
  rw [hm, hB] at HA
  rw [hm, hB]
  clear hA2 hm hL hB ht
  go_enter Tryz.func23, Tryz.ntmps23
  go_wp2
  go_loopw [3, 8] (fun s3 s8 wr => ∃ (i : Nat) (u : Value), u = s3 ∧ s8 = .int .i64 i ∧ i ≤ m ∧ OwnI wr B u ((L.take i).map leafI) ∧ Below B w wr) (fun _ s8 _ => (m - intOf s8).toNat)
  case atStart => exact ⟨0, _, rfl, rfl, Nat.zero_le _, ownI_nil _ _, b0⟩
  case round =>
    clear b0
    obtain ⟨i, u, rfl, rfl, hi, O1, B1⟩ := hrel
    by_cases hlt : i < m
    · have hlt' : (i : Int) < m := by omega
      obtain ⟨g, o, cur, rfl, hg, hr0, hsz, hex⟩ := HA.out i hlt
      have hr1 : rowAt wr g = some cur := (rowAt_below B1 hg).trans hr0
      have hsz1 : o + i * 65 + 65 ≤ cur.size := by omega
      obtain ⟨x, hx⟩ : ∃ x, L.getD i zeroLf = x := ⟨_, rfl⟩
      rw [hx] at hex
      have hBw : B ≤ wr.heap.size := by have := B1.size; have := HB.out; omega
      have b1 : Below B wr (wr.alloc (.cells (cellsF x) 51)) := (Below.refl _ _).alloc hBw _
      have t1 : Cubes (wr.alloc (.cells (cellsF x) 51)) := HT.out.below (by rw [HB.out]; exact B1.trans b1)
      have O2 : OwnI (wr.alloc (.cells (cellsF x) 51)) B u ((L.take i).map leafI) := O1.below ((Below.refl _ _).alloc (Nat.le_refl _) _)
      have HC := Lib.hid (nLeafItem_any x (wr.alloc (.cells (cellsF x) 51)) t1)
      have HX : Hid ((L.take i).map leafI ++ [leafI x] = (L.take (i + 1)).map leafI) := by
        show _ = _
        rw [take_succD L zeroLf i (by rw [HM.out]; exact hlt), hx, List.map_append]
        rfl
      have HS := Lib.hid (by rw [World.size_alloc]; omega : B ≤ (wr.alloc (.cells (cellsF x) 51)).heap.size)
      clear hr0 hsz t1
      go_wp2_with fail
      refine HC.out.mono ?_
      rintro e w2 ⟨rfl, b2⟩
      have O3 := O2.below b2
      have hB2 : B ≤ w2.heap.size := Nat.le_trans HS.out b2.size
      have B2 : Below B w w2 := (B1.trans b1).trans (b2.mono HS.out)
      have O4 : OwnI (w2.alloc (.cells (cellsI (leafI x)) 68)) B u ((L.take i).map leafI) := O3.below ((Below.refl _ _).alloc (Nat.le_refl _) _)
      have r4 : rowAt (w2.alloc (.cells (cellsI (leafI x)) 68)) w2.heap.size = some (cellsI (leafI x)) := rowAt_of_heap (World.alloc_heap_new _ _)
      have hB4 : B ≤ (w2.alloc (.cells (cellsI (leafI x)) 68)).heap.size := by rw [World.size_alloc]; omega
      have B4 : Below B w (w2.alloc (.cells (cellsI (leafI x)) 68)) := B2.alloc hB2 _
      have hlen : ((L.take i).map leafI).length ≤ 1000000 := by rw [List.length_map, List.length_take]; omega
      clear HC O1 B1 hr1 hex hsz1 b1 O2 b2 O3 B2 HS hBw
      generalize leafI x = y at *
      go_wp2_with (at_builtin; refine wpList_putI rfl _ _ rfl B _ _ rfl O4 y w2.heap.size 1 rfl r4 hB4 hlen ?_; intro v' w' u1 u2 _; have B5 := B4.grown u2 hB4 (fun k e => (O4.block e).1); clear O4 r4 B4 u2 hlen)
      rw [HX.out] at u1
      obtain ⟨ao', cap', rfl⟩ := u1.shape
      have e8 : ((L.take (i + 1)).map leafI).length = i + 1 := by rw [List.length_map, List.length_take, HM.out]; omega
      have U1 := Lib.hid u1
      clear u1
      go_wp2
      go_roundw
      case rel => exact ⟨i + 1, _, rfl, by go_num, hlt, U1.out, B5⟩
      case measure => simp [intOf]; omega
    · obtain rfl : i = m := by omega
      have hBw : B ≤ wr.heap.size := by have := B1.size; have := HB.out; omega
      have e1 : L.take i = L := by rw [← HM.out, List.take_length]
      rw [e1] at O1
      have HL : (L.map leafI).length ≤ 1000000 := by rw [List.length_map, HM.out]; omega
      have hs : B ≤ wr.heap.size := hBw
      obtain ⟨ao', cap', hu⟩ := O1.shape
      rw [List.length_map, HM.out] at hu
      subst hu
      have HP := Lib.hid (paSorted_any _ (L.map leafI) HL wr O1.at)
      clear O1 e1 HL
      go_wp2_with fail
      refine HP.out.mono ?_
      rintro e w2 ⟨z, rfl, z1, z2⟩
      have Z1 : Hid (OwnI w2 B z (isortL (ltOf ordI) (L.map leafI))) := z1.base hs
      have Z2 : Hid (Below B w w2) := B1.trans (z2.mono hs)
      obtain ⟨ao2, cap2, rfl⟩ := z1.shape
      clear z1 z2 HP B1
      go_wp2
      go_ret
      exact ⟨_, rfl, Z1.out, Z2.out⟩
end Go.Proofs.YtmabigcolabbmaaGreatDoor
namespace Go.Proofs.YtmabigcolabbmaaGreatDoor
open Go Go.RowKit Go.Sort Go.Lib

def touchL (K : List Lab) (n : Int) (b : Lab) : Bool := K.any (has n b)
def itemsL (L : List Lf) : List Itm := isortL (ltOf ordI) (L.map leafI)
def risingL (L : List Lf) : List Lf := isortL (ltOf ordF) L
theorem insL_map {α β : Type} {f : α → β} {lt : β → β → Bool} {lt' : α → α → Bool} (h : ∀ x y, lt (f x) (f y) = lt' x y) (x : α) : ∀ l : List α, insL lt (f x) (l.map f) = (insL lt' x l).map f
  | [] => rfl
  | y :: l => by
    rw [List.map_cons, insL, insL, h]
    split
    · rfl
    · rw [List.map_cons, insL_map h x l]
theorem isort_map {α β : Type} {f : α → β} {lt : β → β → Bool} {lt' : α → α → Bool} (h : ∀ x y, lt (f x) (f y) = lt' x y) (L : List α) : isortL lt (L.map f) = (isortL lt' L).map f := by
  have key : ∀ (L acc : List α), (L.map f).foldl (fun acc x => insL lt x acc) (acc.map f) = (L.foldl (fun acc x => insL lt' x acc) acc).map f := by
    intro L
    induction L with
    | nil => intro acc; rfl
    | cons x L ih => intro acc; rw [List.map_cons, List.foldl_cons, List.foldl_cons, insL_map h, ih]
  exact key L []
theorem leafI_b (x : Lf) : (leafI x).b = x.a := cut_256 x.a 256 (Nat.le_refl _)
theorem items_rising (L : List Lf) : itemsL L = (risingL L).map leafI := isort_map (fun x y => by
  show decide (order (leafI x).b (leafI y).b < 0) = decide (order x.a y.a < 0)
  rw [leafI_b, leafI_b]) L
def coverL (L : List Lf) (K : List Lab) : List Itm × List Lf := if chkL (itemsL L) ≠ 0 then ([], []) else covF L.length (touchL K) (risingL L)
theorem OwnI.solid {w : World} {B : Nat} {v : Value} {L : List Itm} (h : OwnI w B v L) (hL : 0 < L.length) : ∃ g cap, v = .slice (some ⟨g, 0, none⟩) L.length cap ∧ L.length ≤ cap ∧ cap ≤ maxLen := by
  rcases h.2 with ⟨h1, h2⟩ | ⟨g, cap, cur, h1, _, _, h4, h5, _⟩
  · omega
  · exact ⟨g, cap, h1, h4, h5⟩
theorem OwnF.solid {w : World} {B : Nat} {v : Value} {L : List Lf} (h : OwnF w B v L) (hL : 0 < L.length) : ∃ g cap, v = .slice (some ⟨g, 0, none⟩) L.length cap ∧ L.length ≤ cap ∧ cap ≤ maxLen := by
  rcases h.2 with ⟨h1, h2⟩ | ⟨g, cap, cur, h1, _, _, h4, h5, _⟩
  · omega
  · exact ⟨g, cap, h1, h4, h5⟩

theorem cell0 {w : World} {b : Nat} {x : Value} {T : TypeId} {fr : Nat × Nat} (h : w.heap[b]? = some (.cells #[x] T fr)) : w.cell? ⟨b, 0, none⟩ = some x := (Lib.cell_of_heap h 0).trans rfl
theorem four_allocs (w : World) (a b c d : Obj) : ((((w.alloc a).alloc b).alloc c).alloc d).heap[w.heap.size + 1]? = some b ∧ ((((w.alloc a).alloc b).alloc c).alloc d).heap[w.heap.size + 1 + 1]? = some c ∧ ((((w.alloc a).alloc b).alloc c).alloc d).heap[w.heap.size + 1 + 1 + 1]? = some d ∧ Below (w.heap.size + 1) (w.alloc a) ((((w.alloc a).alloc b).alloc c).alloc d) ∧ Below w.heap.size w ((((w.alloc a).alloc b).alloc c).alloc d) := by
  have s1 : (w.alloc a).heap.size = w.heap.size + 1 := World.size_alloc _ _
  have s2 : ((w.alloc a).alloc b).heap.size = w.heap.size + 1 + 1 := by rw [World.size_alloc, s1]
  have s3 : (((w.alloc a).alloc b).alloc c).heap.size = w.heap.size + 1 + 1 + 1 := by rw [World.size_alloc, s2]
  have n1 : ((w.alloc a).alloc b).heap[w.heap.size + 1]? = some b := by rw [← s1]; exact World.alloc_heap_new _ _
  have n2 : (((w.alloc a).alloc b).alloc c).heap[w.heap.size + 1 + 1]? = some c := by rw [← s2]; exact World.alloc_heap_new _ _
  have n3 : ((((w.alloc a).alloc b).alloc c).alloc d).heap[w.heap.size + 1 + 1 + 1]? = some d := by rw [← s3]; exact World.alloc_heap_new _ _
  refine ⟨?_, ?_, n3, ?_, ?_⟩
  · rw [Below.heap_alloc _ _ _ (by omega), Below.heap_alloc _ _ _ (by omega)]
    exact n1
  · rw [Below.heap_alloc _ _ _ (by omega)]
    exact n2
  · exact (((Below.refl _ _).alloc (by omega) _).alloc (by omega) _).alloc (by omega) _
  · exact ((((Below.refl _ _).alloc (Nat.le_refl _) _).alloc (by omega) _).alloc (by omega) _).alloc (by omega) _

set_option maxRecDepth 100000 in
set_option maxHeartbeats 4000000 in
theorem paCover_any (v lv : Value) (L : List Lf) (K : List Lab) (hL : L.length ≤ 400000) (hK : K.length ≤ 1000000) (w : World) (ht : Cubes w) (hA : AtF w.heap.size w v L) (hB : AtL w.heap.size w lv K) :
    Calls Tryz.prog 22 #[v, lv] w fun e w' => (∃ us uu, e = .returned (.tuple #[us, uu, .int .i64 (chkL (itemsL L))]) ∧ OwnI w' w.heap.size us (coverL L K).1 ∧ OwnF w' w.heap.size uu (coverL L K).2) ∧ Below w.heap.size w w' := by
  have HO := Lib.hid (paOf_any v L (by omega) w ht hA)
  have HA := Lib.hid hA
  have HB := Lib.hid hB
  have HT := Lib.hid ht
  have HIR := Lib.hid (items_rising L)
  have HRL : Hid ((risingL L).length = L.length) := isortL_length L
  have HIL : Hid ((itemsL L).length = L.length) := (isortL_length _).trans (List.length_map _)
  obtain ⟨N, hN⟩ : ∃ N, L.length = N := ⟨_, rfl⟩
  have HN : Hid (L.length = N) := hN
  obtain ⟨E, hE⟩ : ∃ E, chkL (itemsL L) = E := ⟨_, rfl⟩
  have HE := Lib.hid hE
  obtain ⟨R, hR⟩ : ∃ R, coverL L K = R := ⟨_, rfl⟩
  have HRR := Lib.hid hR
  obtain ⟨nK, hnK⟩ : ∃ nK, K.length = nK := ⟨_, rfl⟩
  have HNK := Lib.hid hnK
  obtain ⟨ao0, cap0, rfl, _⟩ := hA
  obtain ⟨ao1, cap1, rfl, _⟩ := hB
  rw [hN] at HRL HIL hL HO HA
  rw [hnK] at HB hK
  rw [hN, hE, hR, hnK]
  clear ht hN hE hR hnK
  go_enter Tryz.func22, Tryz.ntmps22
  go_wp2_with fail
  refine HO.out.mono ?_
  rintro e w2 ⟨u, rfl, o2, b2⟩
  have z2 := b2.size
  change OwnI w2 w.heap.size u (itemsL L) at o2
  obtain ⟨ao, cap, rfl⟩ := o2.shape
  have b3 : Below w.heap.size w (w2.alloc (.cells #[.slice ao (itemsL L).length cap] 22)) := b2.alloc z2 _
  have o3 : OwnI (w2.alloc (.cells #[.slice ao (itemsL L).length cap] 22)) w.heap.size (.slice ao (itemsL L).length cap) (itemsL L) := o2.below ((Below.refl _ _).alloc (Nat.le_refl _) _)
  have x3 : (w2.alloc (.cells #[.slice ao (itemsL L).length cap] 22)).heap[w2.heap.size]? = some (.cells #[.slice ao (itemsL L).length cap] 22 (0, 0)) := World.alloc_heap_new _ _
  have HC := Lib.hid (paCheck_any (.slice ao (itemsL L).length cap) (itemsL L) (by have := HIL.out; omega) _ o3.at)
  rw [HIL.out] at HC b3 o3 x3
  have hz3 : w2.heap.size < (w2.alloc (.cells #[.slice ao N cap] 22)).heap.size := by rw [World.size_alloc]; omega
  rw [HE.out] at HC
  rw [HIL.out]
  have B3 := Lib.hid b3
  have O3 := Lib.hid o3
  have X3 := Lib.hid x3
  have Z3 := Lib.hid hz3
  clear b3 o3 x3 hz3 HO o2 b2
  go_wp2_with fail
  refine HC.out.mono ?_
  rintro e w4 ⟨rfl, b4⟩
  have x4 := (b4.block _ Z3.out).trans X3.out
  have o4 := O3.out.below b4
  have b5 := b4.size
  have B4 : Below w.heap.size w w4 := B3.out.trans (b4.mono (by have := Z3.out; omega))
  have z4 : w2.heap.size < w4.heap.size := Nat.lt_of_lt_of_le Z3.out b5
  have c4 : w4.cell? ⟨w2.heap.size, 0, none⟩ = some (.slice ao N cap) := (Lib.cell_of_heap x4 0).trans rfl
  clear B3 O3 X3 Z3 HC b4 b5
  by_cases h0 : E = 0
  case neg =>
    have qe : (E != 0) = true := by rw [bne_iff_ne]; exact h0
    obtain rfl : R = ([], []) := by rw [← HRR.out, coverL, if_pos (by rw [HE.out]; exact h0)]
    have B5 := Lib.hid B4
    clear x4 o4 c4 B4
    go_wp2_with fail
    go_ret3
    exact ⟨⟨_, _, rfl, ownI_nil _ _, ownF_nil _ _⟩, B5.out⟩
  case pos =>
    subst h0
    have HV : Hid (R = covF N (touchL K) (risingL L)) := by
      show _ = _
      rw [← HRR.out, coverL, if_neg (by rw [HE.out]; decide), HN.out]
    have hAF : AtF w4.heap.size w4 (.slice ao0 N cap0) L := by
      have := HA.out
      exact AtF.below (this.below (Nat.le_refl _) B4) B4.size (Below.refl _ _)
    have HRI := Lib.hid (paRising_any _ L (by have := HN.out; omega) w4 hAF)
    have X4 := Lib.hid x4
    have O4 := Lib.hid o4
    have B5 := Lib.hid B4
    have Z4 := Lib.hid z4
    clear hAF x4 o4 B4 c4 z4
    go_wp2_with fail
    refine HRI.out.mono ?_
    rintro e w5 ⟨u5, rfl, o5, b5⟩
    change OwnF w5 w4.heap.size u5 (risingL L) at o5
    obtain ⟨ao5, cap5, rfl⟩ := o5.shape
    rw [HRL.out] at o5 ⊢
    have z5 := b5.size
    have i5 := O4.out.below b5
    have x5 := (b5.block _ Z4.out).trans X4.out
    have c5 : Below w.heap.size w w5 := B5.out.trans (b5.mono B5.out.size)
    have y6 : (w5.alloc (.cells #[.slice ao5 N cap5] 38)).heap[w5.heap.size]? = some (.cells #[.slice ao5 N cap5] 38 (0, 0)) := World.alloc_heap_new _ _
    have b6 : Below w5.heap.size w5 (w5.alloc (.cells #[.slice ao5 N cap5] 38)) := (Below.refl _ _).alloc (Nat.le_refl _) _
    have s6 : w5.heap.size < (w5.alloc (.cells #[.slice ao5 N cap5] 38)).heap.size := by rw [World.size_alloc]; omega
    have c6 : Below w.heap.size w (w5.alloc (.cells #[.slice ao5 N cap5] 38)) := c5.trans (b6.mono c5.size)
    have hAL : AtL (w5.alloc (.cells #[.slice ao5 N cap5] 38)).heap.size (w5.alloc (.cells #[.slice ao5 N cap5] 38)) (.slice ao1 nK cap1) K := AtL.below (HB.out.below (Nat.le_refl _) c6) c6.size (Below.refl _ _)
    have HAM := Lib.hid (paAmong_any _ K (by rw [HNK.out]; exact hK) _ hAL)
    have I6 := Lib.hid (i5.below b6)
    have O6 := Lib.hid (o5.below b6)
    have X6 := Lib.hid ((b6.block _ (Nat.lt_of_lt_of_le Z4.out z5)).trans x5)
    have Y6 := Lib.hid y6
    have B6 := Lib.hid c6
    have S6 := Lib.hid s6
    have z25 := Lib.hid (Nat.lt_of_lt_of_le Z4.out z5)
    clear hAL b6 y6 c6 s6 c5 x5 i5 o5 b5 B5 O4 X4 HRI Z4
    go_wp2_with fail
    refine HAM.out.mono ?_
    rintro e w7 ⟨pG, uS, S, rfl, g1, g2, g3, g4, g5, b7⟩
    have i7 := I6.out.below b7
    have o7 := O6.out.below b7
    have x7 := (b7.block _ (by have := z25.out; have := S6.out; omega)).trans X6.out
    have y7 := (b7.block _ S6.out).trans Y6.out
    have c7 : Below w.heap.size w w7 := B6.out.trans (b7.mono B6.out.size)
    have hw7 : w5.heap.size < w7.heap.size := Nat.lt_of_lt_of_le S6.out b7.size
    have hw27 : w2.heap.size < w7.heap.size := by have := z25.out; omega
    obtain ⟨aoS, capS, rfl⟩ := g5.shape
    have hSl : S.length ≤ 1000000 := by rw [g3.length_eq, HNK.out]; exact hK
    have G4 := Lib.hid g4
    have G3 := Lib.hid g3
    have cG : w7.cell? ⟨pG, 0, none⟩ = some (.slice aoS S.length capS) := (Lib.cell_of_heap g1 0).trans rfl
    have aG := g5.at
    have HCALL : Hid (∀ w8 n b, Below w7.heap.size w7 w8 → Calls Tryz.prog 74 #[.agg (cellsP n b), .pointer (some ⟨pG, 0, none⟩)] w8 fun e w' => e = .returned (.bool (touchL K n b)) ∧ Below w8.heap.size w8 w') := fun w8 n b h8 => by
      refine (paAmong1_any pG aoS capS S n b w8 hSl G4.out ((h8.cell (p := ⟨pG, 0, none⟩) (cellLt cG)).trans cG) (AtL.below (aG.below (Nat.le_refl _) h8) h8.size (Below.refl _ _))).mono ?_
      rintro e w9 ⟨⟨c, rfl, hc⟩, hb⟩
      exact ⟨by rw [touch_any G4.out hc, touch_perm G3.out]; rfl, hb⟩
    clear cG aG g1 g2 g3 g4 g5 G4 G3 hSl b7 I6 O6 X6 Y6 B6 S6 z25 HAM
    obtain ⟨q1, q2, q3, q4, q5⟩ := four_allocs w7 (.cells #[.func (.func 74) #[] #[.pointer (some ⟨pG, 0, none⟩)]] 86) (.cells #[.slice none 0 0] 22) (.cells #[.slice none 0 0] 38) (.cells #[.func (.func 45) #[] #[.pointer (some ⟨w2.heap.size, 0, none⟩), .pointer (some ⟨w7.heap.size, 0, none⟩), .pointer (some ⟨w7.heap.size + 1, 0, none⟩), .pointer (some ⟨w7.heap.size + 1 + 1, 0, none⟩), .pointer (some ⟨w5.heap.size, 0, none⟩), .pointer (some ⟨w7.heap.size + 1 + 1 + 1, 0, none⟩)]] 88)
    have k1 := (q5.block _ hw27).trans x7
    have k1c := cell0 k1
    by_cases hN0 : 0 < N
    · have hN0i : (0 : Int) < N := by omega
      have eg := eg_cover1
      obtain ⟨gI, capI, e1, e2, e3⟩ := i7.solid (by rw [HIL.out]; exact hN0)
      injection e1 with e4 e5 e6
      subst e4 e6
      clear e5
      obtain ⟨gL, capL, e1, _, _⟩ := o7.solid (by rw [HRL.out]; exact hN0)
      injection e1 with e4 e5 e6
      subst e4 e6
      clear e5
      have s8 : (w7.alloc (.cells #[.func (.func 74) #[] #[.pointer (some ⟨pG, 0, none⟩)]] 86)).heap.size = w7.heap.size + 1 := World.size_alloc _ _
      have b8 : Below w7.heap.size w7 (w7.alloc (.cells #[.func (.func 74) #[] #[.pointer (some ⟨pG, 0, none⟩)]] 86)) := (Below.refl _ _).alloc (Nat.le_refl _) _
      rw [HIL.out] at e2
      have FF : CovF (w7.alloc (.cells #[.func (.func 74) #[] #[.pointer (some ⟨pG, 0, none⟩)]] 86)) (w7.heap.size + 1) N w2.heap.size w7.heap.size w5.heap.size pG gI 0 cap gL 0 cap5 (risingL L) (touchL K) :=
        { hn := s8, hN := HRL.out, hI := cell0 ((b8.block _ hw27).trans x7), hL := cell0 ((b8.block _ hw7).trans y7), hT := cell0 (World.alloc_heap_new _ _)
          aI := by
            rw [← HIR.out]
            have := i7.at
            exact AtI.below (this.below (Nat.le_refl _) b8) (by omega) (Below.refl _ _)
          aL := by
            have := o7.at
            exact AtF.below (this.below (Nat.le_refl _) b8) (by omega) (Below.refl _ _)
          call := fun w8 n b h8 => HCALL.out w8 n b (b8.trans (h8.mono (by omega)))
          rise := by
            rw [← HIR.out]
            exact chkL_rise HE.out
          cubes := HT.out.below (c7.trans (b8.mono c7.size)), lim := hL, cap := e2, max := e3 }
      have CW := (CovW.mk q1 q2 q3 (ownI_nil _ _) (ownF_nil _ _) : CovW _ (w7.heap.size + 1) _ _ _ _ _ _ _ _)
      have HCV := Lib.hid (paCover1_any FF (w7.heap.size + 1) (w7.heap.size + 1) (w7.heap.size + 1 + 1) (w7.heap.size + 1 + 1 + 1) (Nat.le_refl _) (Nat.le_refl _) (by omega) N 0 N _ _ _ _ _ (by omega) hN0 (Nat.le_refl _) q4 (by simp only [World.size_alloc]; omega) CW (by simp; omega) (by simp; omega))
      have k2 := cell0 q3
      have C7 := Lib.hid c7
      have B8 := Lib.hid b8
      clear q1 q2 q4 q5 k1 c7 i7 o7 x7 y7 HCALL FF CW e2 e3 b8 s8 q3
      go_wp2_with fail
      refine HCV.out.mono ?_
      rintro e w9 ⟨rfl, ⟨us, uu, C9⟩, B9, s9⟩
      have hv : (covF N (touchL K) (((risingL L).drop 0).take (N - 0))) = R := by
        rw [HV.out, List.drop_zero, Nat.sub_zero, ← HRL.out, List.take_length]
      rw [hv, List.nil_append, List.nil_append] at C9
      have zS := cell0 C9.hs
      have zU := cell0 C9.hu
      have p2 := fun x => (Past.cell (cellLt zS) x).trans zS
      have p3 := fun x => (Past.cell (cellLt zU) x).trans zU
      obtain ⟨aoS2, capS2, rfl⟩ := C9.os.shape
      obtain ⟨aoU2, capU2, rfl⟩ := C9.ou.shape
      have C10 := Lib.hid C9
      have B10 := Lib.hid (C7.out.trans ((B8.out.trans (B9.mono (by omega))).mono C7.out.size))
      clear hv zS zU C9 B9 s9 HCV k1c k2 C7 B8
      go_wp2_with fail
      refine wp_region_past (by kernel_rfl) (by kernel_rfl) ?_
      repeat (go_big_quiet_step (fail))
      refine wpQuiet_nil ?_
      intro w2 hw2
      obtain ⟨⟨wn, hn⟩, rfl⟩ := hw2
      try dsimp only
      have B11 := Lib.hid (below_past B10.out hn B10.out.size)
      have O11 := Lib.hid ((C10.out.os.below hn).base (B' := w.heap.size) (by omega))
      have U11 := Lib.hid ((C10.out.ou.below hn).base (B' := w.heap.size) (by omega))
      clear hn p2 p3 B10 C10
      go_wp2
      go_ret3
      exact ⟨⟨_, _, rfl, O11.out, U11.out⟩, B11.out⟩
    · obtain rfl : N = 0 := by omega
      have hRn : R = ([], []) := by rw [HV.out, covF]
      subst hRn
      have Q5 := Lib.hid (c7.trans (q5.mono c7.size))
      have k2 := cell0 q1
      have k3 := cell0 q2
      have p2 := fun x => (Past.cell (cellLt k2) x).trans k2
      have p3 := fun x => (Past.cell (cellLt k3) x).trans k3
      clear q1 q2 q3 q4 q5 k1 c7 i7 o7 x7 y7 HCALL k2 k3
      go_wp2_with fail
      refine wp_region_past (by kernel_rfl) (by kernel_rfl) ?_
      repeat (go_big_quiet_step (fail))
      refine wpQuiet_nil ?_
      intro w2 hw2
      obtain ⟨⟨wn, hn⟩, rfl⟩ := hw2
      try dsimp only
      have B9 := Lib.hid (below_past Q5.out hn Q5.out.size)
      clear hn p2 p3 Q5 k1c
      go_wp2
      go_ret3
      exact ⟨⟨_, _, rfl, ownI_nil _ _, ownF_nil _ _⟩, B9.out⟩
end Go.Proofs.YtmabigcolabbmaaGreatDoor
namespace Go.Proofs.YtmabigcolabbmaaGreatDoor
open Go Go.RowKit

theorem run_append_none_len {P : Program} {w : World} {base : Nat} {t e : TypeId} {i : TypeInfo} {size : Nat} (ht : P.underlying t = some (.slice e)) (hi : P.info? e = some i)
    {v : Value} {n : Nat} {xs : List Value} (hown : w.ownsRow base e size v n xs) (cap : Nat) (ty : TypeId) :
    (Builtin.append_ #[t, t] ty #[v, .slice none 0 cap]).run P w = .ok v w := by
  rcases hown.2 with ⟨rfl, rfl⟩ | ⟨g, cap, cur, rfl, _, _, hnc, _⟩
  · simp [Builtin.append_, run_underlying ht, sizeOf, typeInfo, hi, Builtin.lenOf, Builtin.firstCells]
  · simp [Builtin.append_, run_underlying ht, sizeOf, typeInfo, hi, Builtin.lenOf, Builtin.firstCells, hnc, storeCells]
end Go.Proofs.YtmabigcolabbmaaGreatDoor
