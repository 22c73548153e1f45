/- Texts that the next ones stand on: Ref16f, Ref16d, CovKit, Nodes, PermMath, ShaTabs. -/
import Derived.Test.YtmabigcolabbmaaGreatDoorPa13
import Derived.Laws.BitsAllLaws
import Derived.LaidMore
import Derived.Stop.Joined
import Derived.ChangeMaps5
namespace Go.Proofs.YtmabigcolabbmaaGreatDoor
open Go Go.RowKit Go.Lib

@[go_sem ↓] theorem field_ritem (v : Value) (k : Nat) : Instr.field 53 v k = fieldOf 53 v k := rfl
set_option maxRecDepth 100000 in
@[go_sem] theorem field_ritem2 (x : Itm) (w : World) : (fieldOf 53 (.agg (cellsI x)) 2).run Tryz.prog w = .ok (.agg (cellsL x.s)) w :=
  (run_field _ w Tryz.underlying53 rfl).trans (p_I_sum x w)
def topR (L : List Itm) : Lab := if L.length = 0 then shaLab [18] else (wholeF L.length L).s
set_option maxRecDepth 100000 in
set_option maxHeartbeats 2000000 in
theorem r16Top_any (v : Value) (L : List Itm) (hL : L.length ≤ 100000) (hr : RiseI L) (w : World) (hA : AtJ w.heap.size w v L) :
    Calls Tryz.prog 14 #[v] w fun e w' => e = .returned (.agg (cellsL (topR L))) ∧ Below w.heap.size w w' := by
  have b0 : Below w.heap.size w (w.alloc (.cells (cellsL zeroLab) 27)) := (Below.refl _ _).alloc (Nat.le_refl _) _
  have r0 : rowAt (w.alloc (.cells (cellsL zeroLab) 27)) w.heap.size = some (cellsL zeroLab) := rowAt_alloc_at _ _ _ _ rfl
  obtain ⟨m, hm⟩ : ∃ m, L.length = m := ⟨_, rfl⟩
  have hm1 : (m : Int) ≤ 100000 := by omega
  have A1 : AtJ (w.alloc (.cells (cellsL zeroLab) 27)).heap.size (w.alloc (.cells (cellsL zeroLab) 27)) v L := (hA.below (Nat.le_refl _) b0).below b0.size (Below.refl _ _)
  obtain ⟨ao, cap, rfl, _⟩ := hA
  unfold topR
  by_cases h0 : L.length = 0
  · rw [if_pos h0, h0]
    have HS := Lib.hid (r3Sum_any ⟨#[18]⟩ (w.alloc (.cells (cellsL zeroLab) 27)) (by decide))
    rw [show (⟨#[18]⟩ : ByteArray).data.toList = [18] from rfl] at HS
    generalize shaLab [18] = Z at *
    clear A1 hm hr hL h0 hm1
    go_enter Tryz.func14, Tryz.ntmps14
    go_wp2_with fail
    generalize w.alloc (.cells (cellsL zeroLab) 27) = W at *
    refine HS.out.mono ?_
    rintro e w2 ⟨rfl, b2⟩
    have b3 := below_past b0 b2 b0.size
    have r2 := rowAt_past b2 r0
    clear b0 b2 r0 HS
    go_wp2_with fail
    exact row_ret_lab rfl rfl rfl (rowAt_setRow_same r2 _) ⟨rfl, Below.setRow b3 (Nat.le_refl _) _⟩
  · rw [if_neg h0]
    have h1 : ¬ (m : Int) = 0 := by omega
    have HJ := Lib.hid (r16Join_any L.length L _ _ (Nat.le_refl _) (by omega) hr hL A1)
    rw [hm] at HJ ⊢
    generalize wholeF m L = X at *
    clear A1 hm hr hL h0
    go_enter Tryz.func14, Tryz.ntmps14
    go_wp2_with fail
    generalize w.alloc (.cells (cellsL zeroLab) 27) = W at *
    refine HJ.out.mono ?_
    rintro e w2 ⟨rfl, b2⟩
    have b3 := below_past b0 b2 b0.size
    have r2 := rowAt_past b2 r0
    clear b0 b2 r0 HJ
    go_wp2_with fail
    exact row_ret_lab rfl rfl rfl (rowAt_setRow_same r2 _) ⟨rfl, Below.setRow b3 (Nat.le_refl _) _⟩

theorem r16Cover_none (ao : Option Addr) (cap : Nat) (kv : Value) (w : World) : Calls Tryz.prog 24 #[.slice ao 0 cap, kv] w fun e w' => e = .returned (.tuple #[.slice none 0 0, .slice none 0 0]) ∧ Below w.heap.size w w' := by
  go_enter Tryz.func24, Tryz.ntmps24
  go_wp2
  go_ret2
  exact ⟨rfl, Below.refl _ _⟩
theorem atJ_nil (n0 : Nat) (w : World) : AtJ n0 w (.slice none 0 0) [] := ⟨none, 0, rfl, fun i hi => absurd hi (Nat.not_lt_zero i)⟩
theorem atJ_one (w : World) (x : Itm) : AtJ (w.alloc (.cells (cellsI x) 53)).heap.size (w.alloc (.cells (cellsI x) 53)) (.slice (some ⟨w.heap.size, 0, none⟩) 1 1) [x] := by
  refine ⟨_, _, rfl, fun i hi => ⟨w.heap.size, 0, cellsI x, rfl, by rw [World.size_alloc]; omega, rowAt_of_heap (World.alloc_heap_new _ _), ?_, ?_⟩⟩
  · have h1 : i = 0 := by simpa using hi
    subst h1
    rw [size_cellsI]
    decide
  · have h1 : i = 0 := by simpa using hi
    subst h1
    exact extract_I x
set_option maxRecDepth 100000 in
set_option maxHeartbeats 4000000 in
theorem r16Cover_any (K : List Lab) (hK : K.length ≤ 1000000) : ∀ (f : Nat) (P : List Lf) (v kv : Value) (w : World), P.length ≤ f → 0 < P.length → RiseI (P.map leafI) → P.length ≤ 100000 → AtJ w.heap.size w v (P.map leafI) → AtL w.heap.size w kv K →
    Calls Tryz.prog 24 #[v, kv] w fun e w' => ∃ u1 u2, e = .returned (.tuple #[u1, u2]) ∧ AtJ w'.heap.size w' u1 (covF f (touchL K) P).1 ∧ AtJ w'.heap.size w' u2 ((covF f (touchL K) P).2.map leafI) ∧ Below w.heap.size w w' := by
  intro f
  induction f with
  | zero => intro P v kv w h1 h2; omega
  | succ f ih =>
    intro P v kv w hf h0 hr hL hA hB
    have hl : (P.map leafI).length = P.length := List.length_map _
    have HJ := Lib.hid (r16Join_any P.length (P.map leafI) v w (by omega) (by omega) hr (by omega) hA)
    have HTS := Lib.hid (touch_some K h0 hr)
    have HWB := Lib.hid (whole_b P.length (P.map leafI) (by omega) (by omega) hr)
    obtain ⟨m, hm⟩ : ∃ m, P.length = m := ⟨_, rfl⟩
    obtain ⟨I, hI⟩ : ∃ I, P.map leafI = I := ⟨_, rfl⟩
    rw [hI] at HJ HTS HWB hA hl hr
    rw [hm] at HJ HTS HWB hl
    have HV : Hid (covF (f + 1) (touchL K) P = if someR K (wholeF m I) = false then ([wholeF m I], []) else if m = 1 then ([], P) else ((covF f (touchL K) (P.take (forkC I))).1 ++ (covF f (touchL K) (P.drop (forkC I))).1, (covF f (touchL K) (P.take (forkC I))).2 ++ (covF f (touchL K) (P.drop (forkC I))).2)) := by
      show _ = _
      rw [covF, hI, hm, HTS.out]
    have HA := Lib.hid hA
    have HBK := Lib.hid hB
    obtain ⟨X, hX⟩ : ∃ X, wholeF m I = X := ⟨_, rfl⟩
    rw [hX] at HJ HV HWB
    have hAA := hA
    have hBB := hB
    obtain ⟨ao, cap, rfl, _⟩ := hA
    obtain ⟨aok, capk, rfl, _⟩ := hB
    have HSM : Hid (∀ w2, Below w.heap.size w w2 → Calls Tryz.prog 49 #[.slice aok K.length capk, .agg (cellsI X)] w2 fun e w' => e = .returned (.bool (someR K X)) ∧ Below w2.heap.size w2 w') := Lib.hid fun w2 h2 => r16some_any _ K X hK w2 ((hBB.below (Nat.le_refl _) h2).below h2.size (Below.refl _ _))
    rw [hl] at HJ HA ⊢
    have HI := Lib.hid hI
    have HM := Lib.hid hm
    have HL := Lib.hid hl
    have HR := Lib.hid hr
    have HIH := Lib.hid ih
    have h0i : ¬ (m : Int) = 0 := by omega
    have hm1 : (m : Int) ≤ 100000 := by omega
    clear HTS hX hAA hBB hI hl hr hm ih
    generalize hs : someR K X = s at HSM HV
    cases s
    · rw [show covF (f + 1) (touchL K) P = ([X], []) from HV.out.trans (if_pos rfl)]
      clear HV HIH HR HM HI HL HWB HA HBK hs h0
      go_enter Tryz.func24, Tryz.ntmps24
      go_wp2_with fail
      refine HJ.out.mono ?_
      rintro e w2 ⟨rfl, b2⟩
      have b3 : Below w.heap.size w (w2.alloc (.cells (cellsI X) 53)) := b2.alloc b2.size _
      have r3 : rowAt (w2.alloc (.cells (cellsI X) 53)) w2.heap.size = some (cellsI X) := rowAt_of_heap (World.alloc_heap_new _ _)
      have HS := Lib.hid (HSM.out _ b3)
      have z3 : w2.heap.size < (w2.alloc (.cells (cellsI X) 53)).heap.size := by rw [World.size_alloc]; omega
      clear HJ HSM b2
      go_wp2_with fail
      refine HS.out.mono ?_
      rintro e w4 ⟨rfl, b4⟩
      have r4 := rowAt_past b4 r3
      have b5 : Below w.heap.size w w4 := b3.trans (b4.mono b3.size)
      clear HS r3 b4 z3 b3
      go_wp2_with fail
      have B6 := Lib.hid (b5.alloc b5.size (.cells (cellsI X) 53))
      have A6 := Lib.hid (atJ_one w4 X)
      go_ret2
      exact ⟨_, _, rfl, A6.out, atJ_nil _ _, B6.out⟩
    · have HV2 : Hid (covF (f + 1) (touchL K) P = if m = 1 then ([], P) else ((covF f (touchL K) (P.take (forkC I))).1 ++ (covF f (touchL K) (P.drop (forkC I))).1, (covF f (touchL K) (P.take (forkC I))).2 ++ (covF f (touchL K) (P.drop (forkC I))).2)) := Lib.hid (HV.out.trans (if_neg (by decide)))
      clear HV hs
      by_cases h1 : m = 1
      · rw [show covF (f + 1) (touchL K) P = ([], P) from HV2.out.trans (if_pos h1)]
        subst h1
        clear HV2 HIH HR HM HL HWB HBK h0
        go_enter Tryz.func24, Tryz.ntmps24
        go_wp2_with fail
        refine HJ.out.mono ?_
        rintro e w2 ⟨rfl, b2⟩
        have b3 : Below w.heap.size w (w2.alloc (.cells (cellsI X) 53)) := b2.alloc b2.size _
        have r3 : rowAt (w2.alloc (.cells (cellsI X) 53)) w2.heap.size = some (cellsI X) := rowAt_of_heap (World.alloc_heap_new _ _)
        have HS := Lib.hid (HSM.out _ b3)
        have z3 : w2.heap.size < (w2.alloc (.cells (cellsI X) 53)).heap.size := by rw [World.size_alloc]; omega
        clear HJ HSM b2
        go_wp2_with fail
        refine HS.out.mono ?_
        rintro e w4 ⟨rfl, b4⟩
        have b5 : Below w.heap.size w w4 := b3.trans (b4.mono b3.size)
        have A6 := Lib.hid ((HA.out.below (Nat.le_refl _) b5).below b5.size (Below.refl _ _))
        have B6 := Lib.hid b5
        clear HS r3 b4 z3 b3 b5
        go_wp2
        go_ret2
        rw [HI.out]
        exact ⟨_, _, rfl, atJ_nil _ _, A6.out, B6.out⟩
      · have h1i : ((m : Int) == 1) = false := beq_eq_false_iff_ne.2 (by omega)
        obtain ⟨K1, hK1⟩ : ∃ K1, covF f (touchL K) (P.take (forkC I)) = K1 := ⟨_, rfl⟩
        obtain ⟨K2, hK2⟩ : ∃ K2, covF f (touchL K) (P.drop (forkC I)) = K2 := ⟨_, rfl⟩
        rw [show covF (f + 1) (touchL K) P = (K1.1 ++ K2.1, K1.2 ++ K2.2) by rw [← hK1, ← hK2]; exact HV2.out.trans (if_neg h1)]
        have HK1 := Lib.hid hK1
        have HK2 := Lib.hid hK2
        have H2 : Hid (2 ≤ I.length) := by have := HL.out; show _ ≤ _; omega
        have HXN : Hid (X.n = (commonL I : Int)) := Lib.hid (HWB.out.2 H2.out)
        have HF := Lib.hid hf
        clear HV2 hK1 hK2 HWB hf
        go_enter Tryz.func24, Tryz.ntmps24
        go_wp2_with fail
        refine HJ.out.mono ?_
        rintro e w2 ⟨rfl, b2⟩
        have b3 : Below w.heap.size w (w2.alloc (.cells (cellsI X) 53)) := b2.alloc b2.size _
        have r3 : rowAt (w2.alloc (.cells (cellsI X) 53)) w2.heap.size = some (cellsI X) := rowAt_of_heap (World.alloc_heap_new _ _)
        have HS := Lib.hid (HSM.out _ b3)
        have z3 : w2.heap.size < (w2.alloc (.cells (cellsI X) 53)).heap.size := by rw [World.size_alloc]; omega
        clear HJ HSM b2
        go_wp2_with fail
        refine HS.out.mono ?_
        rintro e wr ⟨rfl, b4⟩
        have r4 := rowAt_past b4 r3
        have z4 : w2.heap.size < wr.heap.size := Nat.lt_of_lt_of_le z3 b4.size
        have b5 : Below w.heap.size w wr := b3.trans (b4.mono b3.size)
        generalize w2.heap.size = px at *
        clear HS r3 b4 z3 b3
        obtain ⟨q, hq⟩ : ∃ q, wr.heap.size = q := ⟨_, rfl⟩
        have HQ := Lib.hid hq
        have oa : OwnJ ((wr.alloc (.cells #[] 53)).alloc (.cells #[] 53)) q (.slice (some ⟨wr.heap.size, 0, none⟩) 0 0) [] := by
          rw [← hq]
          exact (ownJ_empty wr).below ((Below.refl _ _).alloc (Nat.le_refl _) _)
        have ob : OwnJ ((wr.alloc (.cells #[] 53)).alloc (.cells #[] 53)) q (.slice (some ⟨wr.heap.size + 1, 0, none⟩) 0 0) [] := by
          have := ownJ_empty (wr.alloc (.cells #[] 53))
          rw [World.size_alloc] at this
          exact this.base (by omega)
        have sp : Sep (.slice (some ⟨wr.heap.size, 0, none⟩) 0 0) (.slice (some ⟨wr.heap.size + 1, 0, none⟩) 0 0) := fun k h1 h2 => by
          simp only [Value.ownBlock, Option.some.injEq] at h1 h2
          omega
        have Bb : Below q wr ((wr.alloc (.cells #[] 53)).alloc (.cells #[] 53)) := ((Below.refl _ _).alloc (by omega) _).alloc (by simp only [World.size_alloc]; omega) _
        have sb : q ≤ ((wr.alloc (.cells #[] 53)).alloc (.cells #[] 53)).heap.size := by simp only [World.size_alloc]; omega
        have hpq : px < q := by omega
        have hwq : w.heap.size ≤ q := by have := b5.size; omega
        rw [hq] at oa ob sp
        clear h1
        go_wp2_with fail
        generalize (wr.alloc (.cells #[] 53)).alloc (.cells #[] 53) = W2 at *
        clear hq
        have RX : rowAt W2 px = some (cellsI X) := (rowAt_below Bb hpq).trans r4
        have Bw : Below w.heap.size w W2 := b5.trans (Bb.mono hwq)
        obtain ⟨ao', cap', e1, hA3⟩ := HA.out
        injection e1 with e3 e4 e5
        subst e3
        clear e4 e5
        obtain ⟨g, o, cur, e6, hgq0, hr0, hs0, hx0⟩ := hA3 0 (by have := H2.out; omega)
        subst e6
        have HAT : Hid (∀ i, i < m → o + i * 66 + 66 ≤ cur.size ∧ cur.extract (o + i * 66) (o + i * 66 + 66) = cellsI (I.getD i zeroItm)) := by
          show ∀ i, _
          intro i hi
          obtain ⟨g', o', cur', e1, _, x2, x3, x4⟩ := hA3 i (by rw [HL.out]; exact hi)
          cases e1
          rw [hr0] at x2
          cases x2
          exact ⟨by omega, x4⟩
        have RG : rowAt W2 g = some cur := (rowAt_below Bw hgq0).trans hr0
        have hgq : g < q := by omega
        clear hA3 hs0 hx0 hr0 b5 r4 Bb HA z4
        have g0 := get_I0 X
        obtain ⟨zn, hzn⟩ : ∃ zn, X.n = zn := ⟨_, rfl⟩
        rw [hzn] at g0 HXN
        clear hzn
        go_loopw [7, 8, 34] (fun s7 s8 s34 w3 => ∃ (j : Nat) (ua ub : Value), ua = s7 ∧ ub = s8 ∧ s34 = .int .i64 j ∧ j ≤ m ∧ OwnJ w3 q ua ((I.take j).take (forkC I)) ∧ OwnJ w3 q ub ((I.take j).drop (forkC I)) ∧ Sep ua ub ∧ Below q W2 w3 ∧ q ≤ w3.heap.size) (fun _ _ s34 _ => (m - intOf s34).toNat)
        case atStart =>
          refine ⟨0, _, _, rfl, rfl, rfl, Nat.zero_le _, ?_, ?_, sp, Below.refl _ _, sb⟩
          · rw [List.take_zero, List.take_nil]
            exact oa
          · rw [List.take_zero, List.drop_nil]
            exact ob
        case round =>
          clear oa ob sp sb
          rename_i wr
          obtain ⟨j, ua, ub, rfl, rfl, rfl, hj, OA, OB, SP, B2, S2⟩ := hrel
          by_cases hji : j < m
          · have hji' : (j : Int) < m := by omega
            obtain ⟨hsz1, hex⟩ := HAT.out j hji
            have hjL : j < I.length := by rw [HL.out]; exact hji
            have HBV := Lib.hid (fork_bit HR.out H2.out hjL)
            have HLO := Lib.hid (part_low' (L := I) (c := forkC I) hjL)
            have HHI := Lib.hid (part_high' (L := I) (c := forkC I) hjL)
            have lenA : ((I.take j).take (forkC I)).length ≤ 1000000 := by rw [List.length_take, List.length_take]; omega
            have lenB : ((I.take j).drop (forkC I)).length ≤ 1000000 := by rw [List.length_drop, List.length_take]; omega
            rw [← HXN.out] at HBV
            generalize I.getD j zeroItm = x at *
            have b2 : Below wr.heap.size wr (wr.alloc (.cells (cellsI x) 53)) := (Below.refl _ _).alloc (Nat.le_refl _) _
            have HBT := Lib.hid (rBit_any x.b zn (wr.alloc (.cells (cellsI x) 53)))
            have B3 := B2.trans (b2.mono S2)
            have S3 := Nat.le_trans S2 b2.size
            have RG2 : rowAt wr g = some cur := (rowAt_below B2 hgq).trans RG
            have Q2 : rowAt (wr.alloc (.cells (cellsI x) 53)) wr.heap.size = some (cellsI x) := rowAt_of_heap (World.alloc_heap_new _ _)
            have KX : (wr.alloc (.cells (cellsI x) 53)).cell? ⟨px, 0, none⟩ = some (.int .i64 zn) := (cell_of_rowAt ((rowAt_below B3 hpq).trans RX) 0).trans g0
            have OA2 := OA.below b2
            have OB2 := OB.below b2
            clear OA OB B2 S2 b2 hjL
            by_cases hc : j < forkC I
            · rw [HBV.out.1 hc] at HBT
              obtain ⟨e1, e2⟩ := HLO.out hc
              have E1 := Lib.hid e1
              have E2 := Lib.hid e2
              clear e1 e2 HLO HHI HBV hc
              generalize (I.take j).take (forkC I) = LA at *
              generalize (I.take j).drop (forkC I) = LB at *
              go_wp2_with fail
              refine HBT.out.mono ?_
              rintro e w4 ⟨rfl, b4⟩
              have O4 := OA2.below b4
              have P4 := OB2.below b4
              have B4 := B3.trans (b4.mono S3)
              have S4 := Nat.le_trans S3 b4.size
              have Q4 := rowAt_past b4 Q2
              clear OA2 OB2 B3 S3 b4 Q2 HBT RG2 KX
              have Oq : OwnJ (w4.alloc (.cells (cellsI x) 53)) (q) _ _ := O4.below ((Below.refl _ _).alloc (Nat.le_refl _) _)
              have Or : OwnJ (w4.alloc (.cells (cellsI x) 53)) (q) _ _ := P4.below ((Below.refl _ _).alloc (Nat.le_refl _) _)
              have rq : rowAt (w4.alloc (.cells (cellsI x) 53)) (w4.heap.size) = some (cellsI x) := rowAt_alloc_at _ _ _ _ (by first | rfl | exact (World.size_alloc _ _).symm)
              have Sq : (q) ≤ (w4.alloc (.cells (cellsI x) 53)).heap.size := by simp only [World.size_alloc] at *; omega
              have Bq : Below (q) W2 (w4.alloc (.cells (cellsI x) 53)) := B4.alloc S4 _
              have Lq := lenA
              go_wp2_with (at_builtin; refine wpList_putJ rfl _ _ rfl (q) _ _ rfl Oq x (w4.heap.size) 1 rfl rq Sq Lq ?_; intro v' w' u1 u2 u3; have Bz := Bq.grown u2 Sq (fun k e => (Oq.block e).1); have Sz := Nat.le_trans Sq u2.size; have Oz := Lib.hid (Or.sep SP u2); have Pz := Lib.hid (SP.grow Or u3); clear Oq Or rq Sq Bq Lq u2 u3)
              rw [E1.out] at u1
              rw [← E2.out] at Oz
              clear O4 P4 B4 S4 lenA lenB SP E1 E2 Q4
              obtain ⟨ao', cap', rfl⟩ := u1.shape
              have U1 := Lib.hid u1
              generalize ((I.take (j + 1)).take (forkC I)).length = kk at *
              clear u1
              go_wp2
              go_roundw
              case rel => exact ⟨j + 1, _, _, rfl, rfl, by go_num, hji, U1.out, Oz.out, Pz.out, Bz, Sz⟩
              case measure => simp [intOf]; omega
            · rw [HBV.out.2 hc] at HBT
              obtain ⟨e1, e2⟩ := HHI.out hc
              have E1 := Lib.hid e1
              have E2 := Lib.hid e2
              clear e1 e2 HLO HHI HBV hc
              generalize (I.take j).take (forkC I) = LA at *
              generalize (I.take j).drop (forkC I) = LB at *
              have SQ := SP.symm
              go_wp2_with fail
              refine HBT.out.mono ?_
              rintro e w4 ⟨rfl, b4⟩
              have O4 := OA2.below b4
              have P4 := OB2.below b4
              have B4 := B3.trans (b4.mono S3)
              have S4 := Nat.le_trans S3 b4.size
              have Q4 := rowAt_past b4 Q2
              clear OA2 OB2 B3 S3 b4 Q2 HBT RG2 KX
              have Oq : OwnJ (w4.alloc (.cells (cellsI x) 53)) (q) _ _ := P4.below ((Below.refl _ _).alloc (Nat.le_refl _) _)
              have Or : OwnJ (w4.alloc (.cells (cellsI x) 53)) (q) _ _ := O4.below ((Below.refl _ _).alloc (Nat.le_refl _) _)
              have rq : rowAt (w4.alloc (.cells (cellsI x) 53)) (w4.heap.size) = some (cellsI x) := rowAt_alloc_at _ _ _ _ (by first | rfl | exact (World.size_alloc _ _).symm)
              have Sq : (q) ≤ (w4.alloc (.cells (cellsI x) 53)).heap.size := by simp only [World.size_alloc] at *; omega
              have Bq : Below (q) W2 (w4.alloc (.cells (cellsI x) 53)) := B4.alloc S4 _
              have Lq := lenB
              go_wp2_with (at_builtin; refine wpList_putJ rfl _ _ rfl (q) _ _ rfl Oq x (w4.heap.size) 1 rfl rq Sq Lq ?_; intro v' w' u1 u2 u3; have Bz := Bq.grown u2 Sq (fun k e => (Oq.block e).1); have Sz := Nat.le_trans Sq u2.size; have Oz := Lib.hid (Or.sep SQ u2); have Pz := Lib.hid (SQ.grow Or u3); clear Oq Or rq Sq Bq Lq u2 u3)
              rw [E2.out] at u1
              rw [← E1.out] at Oz
              clear O4 P4 B4 S4 lenA lenB SP SQ E1 E2 Q4
              obtain ⟨ao', cap', rfl⟩ := u1.shape
              have U1 := Lib.hid u1
              generalize ((I.take (j + 1)).drop (forkC I)).length = kk at *
              clear u1
              go_wp2
              go_roundw
              case rel => exact ⟨j + 1, _, _, rfl, rfl, by go_num, hji, Oz.out, U1.out, Pz.out.symm, Bz, Sz⟩
              case measure => simp [intOf]; omega
          · obtain rfl : j = m := by omega
            have hji' : ¬ (j : Int) < j := by omega
            have e1 : I.take j = I := by rw [← HL.out, List.take_length]
            rw [e1] at OA OB
            obtain ⟨hc0, hcl⟩ := (forkC_at HR.out).inside HR.out H2.out
            have eA : I.take (forkC I) = (P.take (forkC I)).map leafI := by rw [List.map_take, HI.out]
            have eB : I.drop (forkC I) = (P.drop (forkC I)).map leafI := by rw [List.map_drop, HI.out]
            have lA : (P.take (forkC I)).length = forkC I := by rw [List.length_take, HM.out]; have := HL.out; omega
            have lB : (P.drop (forkC I)).length = j - forkC I := by rw [List.length_drop, HM.out]
            have rA : RiseI ((P.take (forkC I)).map leafI) := by rw [← eA]; exact HR.out.take _
            have rB : RiseI ((P.drop (forkC I)).map leafI) := by rw [← eB]; exact HR.out.drop _
            have cA := covF_len f (touchL K) (P.take (forkC I)) (by omega) rA
            have cB := covF_len f (touchL K) (P.drop (forkC I)) (by have := HL.out; omega) rB
            rw [HK1.out, lA] at cA
            rw [HK2.out, lB] at cB
            rw [eA] at OA
            rw [eB] at OB
            have bw : Below w.heap.size w wr := Bw.trans (B2.mono hwq)
            have H1 := HIH.out (P.take (forkC I)) ua (.slice aok K.length capk) wr (by have := HF.out; have := HL.out; have := HM.out; omega) (by omega) rA (by have := HL.out; omega) OA.at ((HBK.out.below (Nat.le_refl _) bw).below bw.size (Below.refl _ _))
            rw [HK1.out] at H1
            have HJ1 := Lib.hid H1
            have HJ2 : Hid (∀ w3, Below wr.heap.size wr w3 → Calls Tryz.prog 24 #[ub, .slice aok K.length capk] w3 fun e w' => ∃ u1 u2, e = .returned (.tuple #[u1, u2]) ∧ AtJ w'.heap.size w' u1 K2.1 ∧ AtJ w'.heap.size w' u2 (K2.2.map leafI) ∧ Below w3.heap.size w3 w') := Lib.hid fun w3 h3 => by
              have := HIH.out (P.drop (forkC I)) ub (.slice aok K.length capk) w3 (by have := HF.out; have := HM.out; omega) (by have := HL.out; omega) rB (by omega) (OB.below h3).at (((HBK.out.below (Nat.le_refl _) bw).below bw.size h3).below h3.size (Below.refl _ _))
              rw [HK2.out] at this
              exact this
            have C1 := Lib.hid cA
            have C2 := Lib.hid cB
            have HC := Lib.hid (And.intro hc0 hcl)
            have BW := Lib.hid bw
            clear H1 OA OB SP B2 e1 hc0 hcl eA eB lA lB rA rB cA cB bw
            go_wp2_with fail
            refine HJ1.out.mono ?_
            rintro e w4 ⟨u1, u2, rfl, p1, p2, b4⟩
            have HJ3 := Lib.hid (HJ2.out w4 b4)
            have P1 := Lib.hid p1
            have P2 := Lib.hid p2
            have BW2 := Lib.hid (BW.out.trans (b4.mono BW.out.size))
            obtain ⟨ao1, cap1, rfl, _⟩ := p1
            obtain ⟨ao2, cap2, rfl, _⟩ := p2
            clear HJ1 HJ2 b4 BW
            go_wp2_with fail
            refine HJ3.out.mono ?_
            rintro e w5 ⟨u3, u4, rfl, p3, p4, b5⟩
            have P1' := Lib.hid ((P1.out.below (Nat.le_refl _) b5).below b5.size (Below.refl _ _))
            have P2' := Lib.hid ((P2.out.below (Nat.le_refl _) b5).below b5.size (Below.refl _ _))
            have P3 := Lib.hid p3
            have P4 := Lib.hid p4
            have BW3 := Lib.hid (BW2.out.trans (b5.mono BW2.out.size))
            obtain ⟨ao3, cap3, rfl, _⟩ := p3
            obtain ⟨ao4, cap4, rfl, _⟩ := p4
            clear HJ3 P1 P2 b5 BW2
            have bn : Below w5.heap.size w5 (w5.alloc (.cells #[] 53)) := (Below.refl _ _).alloc (Nat.le_refl _) _
            have O1 := ownJ_empty w5
            rw [List.length_map] at P2' P4
            have A1 := (P1'.out.below (Nat.le_refl _) bn)
            have l1 : K1.1.length ≤ 500000 := by have := C1.out.1; have := HC.out; have := HL.out; omega
            have l2 : (K1.2.map leafI).length ≤ 500000 := by rw [List.length_map]; have := C1.out.2; have := HC.out; have := HL.out; omega
            have l3 : K2.1.length ≤ 500000 := by have := C2.out.1; have := HC.out; have := HL.out; omega
            have l4 : (K2.2.map leafI).length ≤ 500000 := by rw [List.length_map]; have := C2.out.2; have := HC.out; have := HL.out; omega
            have q5 : w5.heap.size ≤ (w5.alloc (.cells #[] 53)).heap.size := bn.size
            clear hji' S2
            go_wp2_with (first | (at_builtin; refine wpList_putsJ rfl _ _ rfl w5.heap.size _ [] rfl O1 w5.heap.size _ K1.1 rfl A1 q5 (Nat.zero_le _) l1 ?_; intro v1 w6 u1 u2 u3; rw [List.nil_append] at u1; have b6 := bn.grown u2 q5 (fun k e => (O1.block e).1); have A3 := P3.out.below (Nat.le_refl _) b6; have q6 := Nat.le_trans q5 u2.size; have l5 : K1.1.length ≤ 1000000 := (by omega); obtain ⟨ao6, cap6, rfl⟩ := u1.shape; have U1 := Lib.hid u1; have BB6 := Lib.hid b6; have AA3 := Lib.hid A3; clear A1 O1 u1 u2 u3 bn q5 b6 A3) | (at_builtin; refine wpList_putsJ rfl _ _ rfl w5.heap.size _ K1.1 rfl U1.out w5.heap.size _ K2.1 rfl AA3.out q6 l5 l3 ?_; intro v2 w7 y1 y2 y3; have b7 := BB6.out.grown y2 q6 (fun k e => (U1.out.block e).1); have q7 := Nat.le_trans q6 y2.size; have c8 : Below w7.heap.size w7 (w7.alloc (.cells #[] 53)) := (Below.refl _ _).alloc (Nat.le_refl _) _; have O8 := ownJ_empty w7; have A8 := P2'.out.below (Nat.le_refl _) (b7.trans (c8.mono q7)); have q8 := c8.size; obtain ⟨ao7, cap7, rfl⟩ := y1.shape; have Y1 := Lib.hid y1.at; have BB7 := Lib.hid b7; have OO8 := Lib.hid O8; have AA8 := Lib.hid A8; have CC8 := Lib.hid c8; clear U1 AA3 y2 y3 BB6 q6 y1 l5 b7 O8 A8 c8) | (at_builtin; refine wpList_putsJ rfl _ _ rfl w7.heap.size _ [] rfl OO8.out w5.heap.size _ (K1.2.map leafI) rfl AA8.out q8 (Nat.zero_le _) l2 ?_; intro v3 w9 x1 x2 x3; rw [List.nil_append] at x1; have b9 := CC8.out.grown x2 q8 (fun k e => (OO8.out.block e).1); have A9 := P4.out.below (Nat.le_refl _) (BB7.out.trans (b9.mono q7)); have q9 := Nat.le_trans q8 x2.size; have l6 : (K1.2.map leafI).length ≤ 1000000 := (by omega); obtain ⟨ao9, cap9, rfl⟩ := x1.shape; rw [List.length_map] at x1; have XX1 := Lib.hid x1; have BB9 := Lib.hid b9; have AA9 := Lib.hid A9; clear AA8 OO8 x1 x2 x3 CC8 q8 b9 A9) | (at_builtin; refine wpList_putsJ rfl _ _ rfl w7.heap.size _ (K1.2.map leafI) rfl XX1.out w5.heap.size _ (K2.2.map leafI) rfl AA9.out q9 l6 l4 ?_; intro v4 w10 z1 z2 z3; have b10 := BB9.out.grown z2 q9 (fun k e => (XX1.out.block e).1); have q10 := Nat.le_trans q9 z2.size; obtain ⟨ao8, cap8, rfl⟩ := z1.shape; have Z1 := Lib.hid z1.at; have BB10 := Lib.hid b10; clear XX1 AA9 z2 z3 BB9 q9 z1 l6 b10))
            have R1 := Lib.hid ((Y1.out.below (Nat.le_refl _) BB10.out).below BB10.out.size (Below.refl _ _))
            have R2 := Lib.hid (BW3.out.trans ((BB7.out.trans (BB10.out.mono q7)).mono BW3.out.size))
            clear Y1 BB7 BB10
            rw [List.length_append] at R1
            rw [List.length_append, List.length_map, List.length_map] at Z1
            rw [List.map_append]
            go_ret2
            exact ⟨_, _, rfl, R1.out, Z1.out, R2.out⟩
end Go.Proofs.YtmabigcolabbmaaGreatDoor
namespace Go.Proofs.YtmabigcolabbmaaGreatDoor
open Go Go.RowKit Go.Lib

theorem chk_over {x y : Itm} (hx : goodI x = true) (hy : goodI y = true) : chkI x y = if (overR x y || overR y x || !decide (order x.b y.b = -1)) = true then 3 else 0 := by
  have hc := common_symm x.b y.b
  unfold chkI overR
  rw [if_pos (by rw [hx, hy]; rfl)]
  rw [← hc]
  by_cases h1 : order x.b y.b = -1
  · by_cases h : x.n ≤ (common x.b y.b : Int) ∨ y.n ≤ (common x.b y.b : Int)
    · rw [if_pos (by rcases h with h | h; exact .inl h; exact .inr (.inl h)), if_pos]
      simp only [h1, Bool.or_eq_true, Bool.and_eq_true, decide_eq_true_eq]
      left
      omega
    · rw [if_neg (by omega), if_neg]
      simp only [h1, Bool.or_eq_true, Bool.and_eq_true, decide_eq_true_eq]
      simp
      omega
  · rw [if_pos (.inr (.inr h1)), if_pos]
    simp [h1]
theorem chk_bad {x y : Itm} (hy : goodI y = false) : chkI x y = 1 := by
  unfold chkI
  rw [if_neg (by rw [hy]; simp)]
/-- What is left to check, once some were looked at. -/
def leftC (L : List Itm) (i : Nat) : Int := if i = 0 then (if L.length = 0 then 0 else if goodI (L.getD 0 zeroItm) = false then 1 else chkR L) else chkR (L.drop (i - 1))
theorem leftC_zero {L : List Itm} (h : ¬ 2000 < L.length) : chkL L = leftC L 0 := by
  cases L with
  | nil => rfl
  | cons x r =>
    rw [chkL_cons x r h]
    simp [leftC]
set_option maxRecDepth 100000 in
set_option maxHeartbeats 4000000 in
theorem r16Check_any (v : Value) (L : List Itm) (hL : L.length ≤ 1000000) (w : World) (hA : AtJ w.heap.size w v L) :
    Calls Tryz.prog 10 #[v] w fun e w' => e = .returned (.int .i64 (chkL L)) ∧ Below w.heap.size w w' := by
  obtain ⟨ao, cap, rfl, hA2⟩ := hA
  obtain ⟨B, hB⟩ : ∃ B, w.heap.size = B := ⟨_, rfl⟩
  obtain ⟨m, hm⟩ : ∃ m, L.length = m := ⟨_, rfl⟩
  have HM : Hid (L.length = m) := hm
  have HB : Hid (w.heap.size = B) := hB
  have hm1 : (m : Int) ≤ 1000000 := by omega
  have HA := Lib.hid hA2
  obtain ⟨E, hE⟩ : ∃ E, chkL L = E := ⟨_, rfl⟩
  rw [hm, hB] at HA
  by_cases hbig : 2000 < L.length
  · have hb2 : (2000 : Int) < m := by omega
    obtain rfl : E = 2 := by rw [← hE]; unfold chkL; rw [if_pos hbig]
    rw [hm, hE]
    clear hA2 hm hL hbig hE
    go_enter Tryz.func10, Tryz.ntmps10
    go_wp2
    go_ret
    exact ⟨rfl, Below.refl _ _⟩
  · have hb2 : ¬ (2000 : Int) < m := by omega
    have HE : Hid (leftC L 0 = E) := (leftC_zero hbig).symm.trans hE
    rw [hm, hE, hB]
    clear hA2 hm hL hbig hE hB
    go_enter Tryz.func10, Tryz.ntmps10
    go_wp2
    go_loopw [10] (fun s10 wr => ∃ (i : Nat), s10 = .int .i64 i ∧ i ≤ m ∧ Hid (leftC L i = E ∧ (0 < i → goodI (L.getD (i - 1) zeroItm) = true)) ∧ Below B w wr ∧ B ≤ wr.heap.size) (fun s10 _ => (m - intOf s10).toNat)
    case atStart => exact ⟨0, rfl, Nat.zero_le _, ⟨HE.out, fun h => absurd h (Nat.lt_irrefl 0)⟩, Below.refl _ _, Nat.le_of_eq HB.out.symm⟩
    case round =>
      obtain ⟨i, rfl, hi, HI, B1, S1⟩ := hrel
      by_cases hlt : i < m
      · have hlt' : (i : Int) < m := by omega
        obtain ⟨g, o, cur, rfl, hg, hr0, hsz, hex⟩ := HA.out i hlt
        have hr1 : rowAt wr g = some cur := (rowAt_below B1 hg).trans hr0
        have hsz1 : o + i * 66 + 66 ≤ cur.size := by omega
        have HL : Hid (i < L.length) := by rw [HM.out]; exact hlt
        obtain ⟨x, hx⟩ : ∃ x, L.getD i zeroItm = x := ⟨_, rfl⟩
        rw [hx] at hex
        have HX := Lib.hid hx
        have b2 : Below wr.heap.size wr (wr.alloc (.cells (cellsI x) 53)) := (Below.refl _ _).alloc (Nat.le_refl _) _
        have HG := Lib.hid (r15Good_any x (wr.alloc (.cells (cellsI x) 53)))
        have r1 : rowAt (wr.alloc (.cells (cellsI x) 53)) wr.heap.size = some (cellsI x) := rowAt_of_heap (World.alloc_heap_new _ _)
        have r2 := rowAt_past b2 hr1
        have B2 : Below B w (wr.alloc (.cells (cellsI x) 53)) := B1.trans (b2.mono S1)
        have S2 := Nat.le_trans S1 b2.size
        obtain ⟨gx, hgx⟩ : ∃ gx, goodI x = gx := ⟨_, rfl⟩
        have HGX := Lib.hid hgx
        rw [hgx] at HG
        have H0 : Hid (0 < i → leftC L i = if chkI (L.getD (i - 1) zeroItm) x = 0 then chkR (L.drop i) else chkI (L.getD (i - 1) zeroItm) x) := by
          show _ → _
          intro h0
          have hs := chkR_step L (i - 1) (by rw [show i - 1 + 1 = i by omega]; exact HL.out)
          rw [show i - 1 + 1 = i by omega, hx] at hs
          rw [leftC, if_neg (by omega)]
          exact hs
        have H1 : Hid (i = 0 → leftC L i = if gx = false then 1 else chkR (L.drop i)) := by
          show _ → _
          intro h0
          subst h0
          have := HL.out
          rw [leftC, if_pos rfl, if_neg (by omega), hx, hgx]
          rfl
        have H2 : Hid (chkR (L.drop i) = leftC L (i + 1)) := by
          show _ = _
          rw [leftC, if_neg (by omega), Nat.add_sub_cancel]
        clear hr0 B1 S1 b2 hx hgx
        cases gx
        · obtain rfl : E = 1 := by
            rw [← HI.out.1]
            by_cases h0 : i = 0
            · rw [H1.out h0]; rfl
            · rw [H0.out (by omega), chk_bad HGX.out]; rfl
          clear H0 H1 H2 HI
          go_wp2_with fail
          refine HG.out.mono ?_
          rintro e w3 ⟨rfl, b3⟩
          have B3 := Lib.hid (B2.trans (b3.mono S2))
          clear b3 B2 S2 HG r1 r2 hr1
          go_wp2
          go_ret
          exact ⟨rfl, B3.out⟩
        · go_wp2_with fail
          refine HG.out.mono ?_
          rintro e w3 ⟨rfl, b3⟩
          have B4 := B2.trans (b3.mono S2)
          have S4 := Nat.le_trans S2 b3.size
          have q1 := rowAt_past b3 r1
          have q2 := rowAt_past b3 r2
          clear b3 B2 S2 HG r1 r2 hr1
          have B2 := B4
          have S2 := S4
          clear B4 S4
          by_cases h0 : i = 0
          · have hi0 : ¬ (0 : Int) < i := by omega
            have HN : Hid (leftC L (i + 1) = E ∧ (0 < i + 1 → goodI (L.getD (i + 1 - 1) zeroItm) = true)) := by
              refine ⟨?_, fun _ => by rw [Nat.add_sub_cancel, HX.out]; exact HGX.out⟩
              rw [← HI.out.1, H1.out h0, if_neg (by decide)]
              exact H2.out.symm
            clear H0 H1 H2 HI q1 q2
            subst h0
            go_wp2_with fail
            refine wp_region_past (by kernel_rfl) (by kernel_rfl) ?_
            iterate 32 go_big_quiet_step (fail)
            refine wpQuiet_nil ?_
            intro wn hw2
            obtain ⟨⟨wx, hn⟩, rfl⟩ := hw2
            try dsimp only
            have B3 := B2.trans (hn.mono S2)
            have S3 := Nat.le_trans S2 hn.size
            clear hn B2 S2
            go_wp2
            go_roundw
            case rel => exact ⟨0 + 1, by go_num, hlt, HN.out, B3, S3⟩
            case measure => simp [intOf]; omega
          · have hi0 : decide (0 < i) = true := decide_eq_true (by omega)
            obtain ⟨k, hk⟩ : ∃ k, i = k + 1 := ⟨i - 1, by omega⟩
            have hkz : IntKind.i64.wrap ((i : Int) - 1) = (k : Int) := by rw [IntWalk.i64_in _ (by omega)]; omega
            have hkm : k < m := by omega
            have hkmi : (k : Int) < m := by omega
            have hki : i - 1 = k := by omega
            rw [hki] at H0 HI
            obtain ⟨ao', o', cur', e1, hg', hr', hsz', hex'⟩ := HA.out k hkm
            cases e1
            obtain rfl : cur' = cur := by
              have h1 := (rowAt_below (B2 : Below B w _) hg').trans hr'
              rw [q2] at h1
              exact (Option.some.inj h1).symm
            have hsz2 : o + k * 66 + 66 ≤ cur'.size := by omega
            have hsz3 : o + k * 66 + 1 + 32 ≤ cur'.size := by omega
            have hexb := ext_b hex'
            have HP := Lib.hid (HI.out.2 (by omega))
            have HEq := Lib.hid ((H0.out (by omega)).symm.trans HI.out.1)
            generalize L.getD k zeroItm = p at *
            rw [chk_over HP.out HGX.out] at HEq
            have HO1 := Lib.hid (fun w => r16over_any p x w)
            have HO2 := Lib.hid (fun w => r16over_any x p w)
            have HO3 := Lib.hid (fun w => rOrder_any p.b x.b w)
            have p1 := fun z : Past w3 => Past.row q1 z
            have p2 := fun z : Past w3 => Past.row q2 z
            have HN0 : Hid (0 < i + 1 → goodI (L.getD (i + 1 - 1) zeroItm) = true) := by
              show _ → _
              intro _
              rw [Nat.add_sub_cancel, HX.out]
              exact HGX.out
            generalize overR p x = o1 at *
            generalize overR x p = o2 at *
            generalize hzz : order p.b x.b = z at HO3 HEq
            clear H0 H1 HI q1 q2 h0 hk hki hg' hr' hsz' hzz
            cases o1
            · cases o2
              · by_cases hz : z = -1
                · subst hz
                  have HN : Hid (leftC L (i + 1) = E ∧ (0 < i + 1 → goodI (L.getD (i + 1 - 1) zeroItm) = true)) := by
                    refine ⟨?_, HN0.out⟩
                    rw [← H2.out]
                    simpa using HEq.out
                  clear H2 HEq HN0
                  go_wp2_with fail
                  refine wp_region_past (by kernel_rfl) (by kernel_rfl) ?_
                  iterate 9 go_big_quiet_step (fail)
                  go_big_quiet_step (exact Past.call (HO1.out _))
                  iterate 7 go_big_quiet_step (fail)
                  go_big_quiet_step (exact Past.call (HO2.out _))
                  iterate 10 go_big_quiet_step (fail)
                  go_big_quiet_step (exact Past.call (HO3.out _))
                  iterate 3 go_big_quiet_step (fail)
                  refine wpQuiet_nil ?_
                  intro wn hw2
                  obtain ⟨⟨wx, hn⟩, rfl⟩ := hw2
                  try dsimp only
                  clear p1 p2 HO1 HO2 HO3
                  have B3 := B2.trans (hn.mono S2)
                  have S3 := Nat.le_trans S2 hn.size
                  clear hn B2 S2
                  go_wp2
                  go_roundw
                  case rel => exact ⟨i + 1, by go_num, hlt, HN.out, B3, S3⟩
                  case measure => simp [intOf]; omega
                · have hz2 : (z != -1) = true := bne_iff_ne.2 hz
                  obtain rfl : E = 3 := by
                    have := HEq.out
                    simp [hz] at this
                    exact this.symm
                  clear H2 HEq HN0 hz
                  go_wp2_with fail
                  refine wp_region_past (by kernel_rfl) (by kernel_rfl) ?_
                  iterate 9 go_big_quiet_step (fail)
                  go_big_quiet_step (exact Past.call (HO1.out _))
                  iterate 7 go_big_quiet_step (fail)
                  go_big_quiet_step (exact Past.call (HO2.out _))
                  iterate 10 go_big_quiet_step (fail)
                  go_big_quiet_step (exact Past.call (HO3.out _))
                  iterate 3 go_big_quiet_step (fail)
                  refine wpQuiet_nil ?_
                  intro wn hw2
                  obtain ⟨⟨wx, hn⟩, rfl⟩ := hw2
                  try dsimp only
                  clear p1 p2 HO1 HO2 HO3
                  have B3 := Lib.hid (B2.trans (hn.mono S2))
                  clear hn B2 S2
                  go_wp2
                  go_ret
                  exact ⟨rfl, B3.out⟩
              · obtain rfl : E = 3 := by
                  have := HEq.out
                  simp at this
                  exact this.symm
                clear H2 HEq HN0
                go_wp2_with fail
                refine wp_region_past (by kernel_rfl) (by kernel_rfl) ?_
                iterate 9 go_big_quiet_step (fail)
                go_big_quiet_step (exact Past.call (HO1.out _))
                iterate 7 go_big_quiet_step (fail)
                go_big_quiet_step (exact Past.call (HO2.out _))
                iterate 14 go_big_quiet_step (fail)
                refine wpQuiet_nil ?_
                intro wn hw2
                obtain ⟨⟨wx, hn⟩, rfl⟩ := hw2
                try dsimp only
                clear p1 p2 HO1 HO2 HO3
                have B3 := Lib.hid (B2.trans (hn.mono S2))
                clear hn B2 S2
                go_wp2
                go_ret
                exact ⟨rfl, B3.out⟩
            · obtain rfl : E = 3 := by
                have := HEq.out
                simp at this
                exact this.symm
              clear H2 HEq HN0
              go_wp2_with fail
              refine wp_region_past (by kernel_rfl) (by kernel_rfl) ?_
              iterate 9 go_big_quiet_step (fail)
              go_big_quiet_step (exact Past.call (HO1.out _))
              iterate 22 go_big_quiet_step (fail)
              refine wpQuiet_nil ?_
              intro wn hw2
              obtain ⟨⟨wx, hn⟩, rfl⟩ := hw2
              try dsimp only
              clear p1 p2 HO1 HO2 HO3
              have B3 := Lib.hid (B2.trans (hn.mono S2))
              clear hn B2 S2
              go_wp2
              go_ret
              exact ⟨rfl, B3.out⟩
      · obtain rfl : i = m := by omega
        have hlt' : ¬ (i : Int) < i := by omega
        obtain rfl : E = 0 := by
          rw [← HI.out.1, leftC]
          split
          · rename_i h
            rw [if_pos (by rw [HM.out]; exact h)]
          · rename_i h
            rw [chkR_last L (i - 1) (by rw [HM.out]; omega)]
        have B3 := Lib.hid B1
        clear B1 HI S1
        go_wp2
        go_ret
        exact ⟨rfl, B3.out⟩
end Go.Proofs.YtmabigcolabbmaaGreatDoor
namespace Go.Proofs.YtmabigcolabbmaaGreatDoor
open Go Go.RowKit Go.Sort Go.Lib

theorem cover_nil {L : List Lf} {K : List Lab} (h : chkL (itemsL L) ≠ 0) : coverL L K = ([], []) := by rw [coverL, if_pos h]
theorem cover_is {L : List Lf} {K : List Lab} (h : chkL (itemsL L) = 0) : coverL L K = covF (risingL L).length (touchL K) (risingL L) := by
  rw [coverL, if_neg (by rw [h]; decide), show (risingL L).length = L.length from isortL_length L]
set_option maxRecDepth 100000 in
/-- The document's Cover of the leaves' items. -/
theorem r16Cover_all (L : List Lf) (K : List Lab) (hL : L.length ≤ 1000) (hK : K.length ≤ 1000000) (h : chkL (itemsL L) = 0) (v kv : Value) (w : World) (hA : AtJ w.heap.size w v (itemsL L)) (hB : AtL w.heap.size w kv K) :
    Calls Tryz.prog 24 #[v, kv] w fun e w' => ∃ u1 u2, e = .returned (.tuple #[u1, u2]) ∧ AtJ w'.heap.size w' u1 (coverL L K).1 ∧ AtJ w'.heap.size w' u2 ((coverL L K).2.map leafI) ∧ Below w.heap.size w w' := by
  have hl : (risingL L).length = L.length := isortL_length L
  rw [cover_is h]
  by_cases h0 : L.length = 0
  · have e1 : risingL L = [] := List.eq_nil_of_length_eq_zero (by omega)
    obtain ⟨ao, cap, rfl, _⟩ := hA
    have e2 : (itemsL L).length = 0 := by rw [items_rising, e1]; rfl
    rw [e2, e1]
    refine (r16Cover_none ao cap kv w).mono ?_
    rintro e w' ⟨rfl, hb⟩
    exact ⟨_, _, rfl, atJ_nil _ _, atJ_nil _ _, hb⟩
  · refine r16Cover_any K hK (risingL L).length (risingL L) v kv w (Nat.le_refl _) (by omega) ?_ (by omega) ?_ hB
    · rw [← items_rising]
      exact chkL_rise h
    · rw [← items_rising]
      exact hA
end Go.Proofs.YtmabigcolabbmaaGreatDoor
namespace Go.Proofs.YtmabigcolabbmaaGreatDoor
open Go Go.RowKit Go.Lib

theorem AtJ.take {n0 : Nat} {w : World} {ao : Option Addr} {cap c : Nat} {L : List Itm} (h : AtJ n0 w (.slice ao L.length cap) L) (hc : c ≤ L.length) : AtJ n0 w (.slice ao c cap) (L.take c) := by
  obtain ⟨ao', cap', e, h2⟩ := h
  injection e with e1 e2 e3
  subst e1
  have hl : (L.take c).length = c := by rw [List.length_take]; omega
  refine ⟨ao, cap, by rw [hl], fun i hi => ?_⟩
  rw [hl] at hi
  obtain ⟨g, o, cur, x1, x2, x3, x4, x5⟩ := h2 i (by omega)
  refine ⟨g, o, cur, x1, x2, x3, x4, ?_⟩
  rw [x5, List.getD_eq_getElem?_getD, List.getD_eq_getElem?_getD, List.getElem?_take, if_pos hi]
theorem AtJ.drop {n0 : Nat} {w : World} {g o cap c : Nat} {L : List Itm} (h : AtJ n0 w (.slice (some ⟨g, o, none⟩) L.length cap) L) (hc : c ≤ L.length) : AtJ n0 w (.slice (some ⟨g, o + c * 66, none⟩) (L.length - c) (cap - c)) (L.drop c) := by
  obtain ⟨ao', cap', e, h2⟩ := h
  injection e with e1 e2 e3
  subst e1
  have hl : (L.drop c).length = L.length - c := List.length_drop
  refine ⟨_, _, by rw [hl], fun i hi => ?_⟩
  rw [hl] at hi
  obtain ⟨g', o', cur, x1, x2, x3, x4, x5⟩ := h2 (c + i) (by omega)
  cases x1
  refine ⟨_, _, cur, rfl, x2, x3, by omega, ?_⟩
  rw [show o + c * 66 + i * 66 = o + (c + i) * 66 by omega, x5, List.getD_eq_getElem?_getD, List.getD_eq_getElem?_getD, List.getElem?_drop]
theorem byte_cell {cur : Array Value} {s : Nat} {x : Itm} (h : cur.extract s (s + 66) = cellsI x) (_ : s + 66 ≤ cur.size) (q : Nat) (hq : q < 32) : cur[s + 1 + q]? = some (.int .u8 ((x.b.get q).toNat : Int)) := by
  have hb := ext_b h
  have h1 := get_cellsL x.b q hq
  rw [← hb, Array.getElem?_extract] at h1
  split at h1
  · rw [h1]
  · cases h1
theorem bit_u8 (a : Lab) (z : Int) (h0 : 0 ≤ z) (h1 : z < 256) : bits .and .u8 (((a.get (z / 8).toNat).toNat : Int) / 2 ^ (7 - z % 8).toNat) 1 = (bit a z.toNat : Int) := by
  have hx := (a.get (z / 8).toNat).toNat_lt
  have hle : (a.get (z / 8).toNat).toNat / 2 ^ (7 - z % 8).toNat ≤ (a.get (z / 8).toNat).toNat := Nat.div_le_self _ _
  rw [div_pow_cast]
  have e : bit a z.toNat = (a.get (z / 8).toNat).toNat / 2 ^ (7 - z % 8).toNat % 2 := by
    rw [bit, bitB, show (z / 8).toNat = z.toNat / 8 by omega, show (7 - z % 8).toNat = 7 - z.toNat % 8 by omega]
  rw [e, show (1 : Int) = ((1 : Nat) : Int) from rfl, u8_and_nat _ _ (by omega) (by omega), nat_mask1]
set_option maxRecDepth 100000 in
set_option maxHeartbeats 4000000 in
theorem l16nodes_any : ∀ (f : Nat) (L : List Itm) (ao : Option Addr) (cap : Nat) (w : World), L.length ≤ f → RiseI L → L.length ≤ 1000 → L.length ≤ cap → cap ≤ maxLen → AtJ w.heap.size w (.slice ao L.length cap) L →
    Calls Tryz.prog 28 #[.slice ao L.length cap] w fun e w' => e = .returned (.int .i64 ((2 * L.length - 1 : Nat) : Int)) ∧ Below w.heap.size w w' := by
  intro f
  induction f with
  | zero =>
    intro L ao cap w hf _ _ _ _ _
    have h0 : L.length = 0 := by omega
    rw [h0]
    go_enter Tryz.func28, Tryz.ntmps28
    go_wp2
    go_ret
    exact ⟨rfl, Below.refl _ _⟩
  | succ f ih =>
    intro L ao cap w hf hr hL hcap hmax hA
    obtain ⟨m, hm⟩ : ∃ m, L.length = m := ⟨_, rfl⟩
    by_cases h2 : m < 2
    · have h2i : (m : Int) < 2 := by omega
      have e : ((2 * m - 1 : Nat) : Int) = m := by omega
      rw [hm, e]
      clear ih hA e hm
      go_enter Tryz.func28, Tryz.ntmps28
      go_wp2
      go_ret
      exact ⟨rfl, Below.refl _ _⟩
    · have h2i : ¬ (m : Int) < 2 := by omega
      have H2 : Hid (2 ≤ L.length) := by show _ ≤ _; omega
      have HJ := Lib.hid (r16Join_any L.length L _ w (Nat.le_refl _) (by omega) hr (by omega) hA)
      have HWN := Lib.hid ((whole_b L.length L (Nat.le_refl _) (by omega) hr).2 H2.out)
      obtain ⟨X, hX⟩ : ∃ X, wholeF L.length L = X := ⟨_, rfl⟩
      rw [hX] at HJ HWN
      obtain ⟨_, _, e0, hA2⟩ := id hA
      injection e0 with e1 e2 e3
      subst e1
      obtain ⟨g, o, cur, rfl, hg, hr0, _, _⟩ := hA2 0 (by omega)
      have HA : Hid (∀ i, i < m → o + i * 66 + 66 ≤ cur.size ∧ cur.extract (o + i * 66) (o + i * 66 + 66) = cellsI (L.getD i zeroItm)) := by
        show ∀ i, _
        intro i hi
        obtain ⟨g', o', cur', e1, _, x2, x3, x4⟩ := hA2 i (by omega)
        cases e1
        rw [hr0] at x2
        cases x2
        exact ⟨by omega, x4⟩
      have HAA := Lib.hid hA
      have HR := Lib.hid hr
      have HIH := Lib.hid ih
      have HM := Lib.hid hm
      obtain ⟨z, hz⟩ : ∃ z, X.n = z := ⟨_, rfl⟩
      rw [hz] at HWN
      have g0 := get_I0 X
      rw [hz] at g0
      have hz0 : 0 ≤ z := by rw [HWN.out]; omega
      have hz1 : z < 256 := by have := (fork_ends hr H2.out).1; rw [HWN.out]; omega
      have hc := (forkC_at hr).inside hr H2.out
      obtain ⟨c, hcc⟩ : ∃ c, forkC L = c := ⟨_, rfl⟩
      rw [hcc] at hc
      have HCC := Lib.hid hcc
      rw [hm] at HJ ⊢
      obtain ⟨KK, hKK⟩ : ∃ KK, 2 * m - 1 = KK := ⟨_, rfl⟩
      rw [hKK]
      have HKK := Lib.hid hKK
      clear hA2 e2 e3 hA ih hr hX hz hcc hKK
      go_enter Tryz.func28, Tryz.ntmps28
      go_wp2_with fail
      refine HJ.out.mono ?_
      rintro e w2 ⟨rfl, b2⟩
      have b3 : Below w.heap.size w (w2.alloc (.cells (cellsI X) 53)) := b2.alloc b2.size _
      have kx : (w2.alloc (.cells (cellsI X) 53)).cell? ⟨w2.heap.size, 0, none⟩ = some (.int .i64 z) := (cell_of_rowAt (rowAt_of_heap (World.alloc_heap_new _ _)) 0).trans g0
      have hs3 : w.heap.size ≤ (w2.alloc (.cells (cellsI X) 53)).heap.size := b3.size
      have RG := Lib.hid ((rowAt_below b3 hg).trans hr0)
      clear HJ b2 hr0
      go_wp2_with fail
      generalize w2.alloc (.cells (cellsI X) 53) = W at *
      generalize w2.heap.size = bx at *
      go_loopw [4] (fun s4 wr => ∃ (j : Nat), s4 = .int .i64 j ∧ j ≤ c ∧ Below W.heap.size W wr) (fun s4 _ => (c - intOf s4).toNat)
      case atStart => exact ⟨0, rfl, Nat.zero_le _, Below.refl _ _⟩
      case round =>
        rename_i wr
        obtain ⟨j, rfl, hj, B1⟩ := hrel
        have hjm : j < m := by have := HM.out; omega
        have hjm' : (j : Int) < m := by omega
        obtain ⟨hsz1, hex⟩ := HA.out j hjm
        have hby := byte_cell hex hsz1 (z / 8).toNat (by omega)
        have RW := (rowAt_below B1 (lt_of_rowAt RG.out)).trans RG.out
        have kb : wr.cell? ⟨g, o + j * 66 + 1 + (z / 8).toNat, none⟩ = some (.int .u8 (((L.getD j zeroItm).b.get (z / 8).toNat).toNat : Int)) := (cell_of_rowAt RW _).trans hby
        have kz : wr.cell? ⟨bx, 0, none⟩ = some (.int .i64 z) := (B1.cell (cellLt kx)).trans kx
        obtain ⟨bb, hbb⟩ : ∃ bb, ((L.getD j zeroItm).b.get (z / 8).toNat).toNat = bb := ⟨_, rfl⟩
        have hb8 : bb < 256 := by rw [← hbb]; exact UInt8.toNat_lt _
        have HBB := Lib.hid hbb
        rw [hbb] at kb
        clear hbb hby
        have p1 := fun y => (Past.cell (cellLt kb) y).trans kb
        have p2 := fun y => (Past.cell (cellLt kz) y).trans kz
        have hzn : z.toNat = commonL L := by rw [HWN.out]; rfl
        have hbv := bit_u8 (L.getD j zeroItm).b z hz0 hz1
        rw [hzn] at hbv
        have hfb := fork_bits HR.out H2.out (i := j) (by rw [HM.out]; exact hjm)
        rw [HCC.out] at hfb
        rw [HBB.out] at hbv
        by_cases hjc : j < c
        · rw [hfb.1 hjc, show (((0 : Nat) : Int)) = 0 from rfl] at hbv
          clear hfb hzn
          go_wp2_with fail
          refine wp_region_past (by kernel_rfl) (by kernel_rfl) ?_
          iterate 22 go_big_quiet_step (fail)
          refine wpQuiet_nil ?_
          intro wn hw2
          obtain ⟨⟨wx, hn⟩, rfl⟩ := hw2
          try dsimp only
          have B3 := B1.trans (hn.mono B1.size)
          clear p1 p2 hn B1 kb kz RW hbv hex
          go_wp2
          go_roundw
          case rel => exact ⟨j + 1, by go_num, by omega, B3⟩
          case measure => simp [intOf]; omega
        · obtain rfl : j = c := by omega
          rw [hfb.2 hjc, show (((1 : Nat) : Int)) = 1 from rfl] at hbv
          have hcm : (j : Int) ≤ m := by omega
          have hcc2 : (j : Int) ≤ cap := by omega
          have hcp : j ≤ cap := by omega
          have lT : (L.take j).length = j := by rw [List.length_take, HM.out]; omega
          have lD : (L.drop j).length = m - j := by rw [List.length_drop, HM.out]
          have aW := (HAA.out.below (Nat.le_refl _) (b3.trans (B1.mono hs3)))
          have aT := aW.take (c := j) (by rw [HM.out]; omega)
          have aD := aW.drop (c := j) (by rw [HM.out]; omega)
          have H3 : Hid (∀ y : Past wr, Calls Tryz.prog 28 #[.slice (some ⟨g, o, none⟩) j cap] y.w fun e w' => e = .returned (.int .i64 ((2 * j - 1 : Nat) : Int)) ∧ Below y.w.heap.size y.w w') := fun y => by
            have := HIH.out (L.take j) (some ⟨g, o, none⟩) cap y.w (by omega) (HR.out.take j) (by omega) (by omega) hmax (by rw [lT]; exact (AtJ.below aT (Nat.le_trans b3.size (by have := B1.size; omega)) y.h).below y.h.size (Below.refl _ _))
            rw [lT] at this
            exact this
          have H4 : Hid (∀ y : Past wr, Calls Tryz.prog 28 #[.slice (some ⟨g, o + j * 66, none⟩) (m - j) (cap - j)] y.w fun e w' => e = .returned (.int .i64 ((2 * (m - j) - 1 : Nat) : Int)) ∧ Below y.w.heap.size y.w w') := fun y => by
            have hq : AtJ w.heap.size wr (.slice (some ⟨g, o + j * 66, none⟩) (m - j) (cap - j)) (L.drop j) := by rw [← HM.out]; exact aD
            have := HIH.out (L.drop j) (some ⟨g, o + j * 66, none⟩) (cap - j) y.w (by omega) (HR.out.drop j) (by omega) (by omega) (by omega) (by rw [lD]; exact (AtJ.below hq (Nat.le_trans b3.size (by have := B1.size; omega)) y.h).below y.h.size (Below.refl _ _))
            rw [lD] at this
            exact this
          obtain ⟨n1, hn1⟩ : ∃ n1, 2 * j - 1 = n1 := ⟨_, rfl⟩
          obtain ⟨n2, hn2⟩ : ∃ n2, 2 * (m - j) - 1 = n2 := ⟨_, rfl⟩
          obtain ⟨k1, hk1⟩ : ∃ k1, 1 + n1 = k1 := ⟨_, rfl⟩
          obtain ⟨k2, hk2⟩ : ∃ k2, k1 + n2 = k2 := ⟨_, rfl⟩
          obtain rfl : KK = k2 := by have := HKK.out; omega
          have hs1 : IntKind.i64.wrap (1 + (n1 : Int)) = (k1 : Int) := by rw [IntWalk.i64_in _ (by omega)]; omega
          have hs2 : IntKind.i64.wrap ((k1 : Int) + (n2 : Int)) = (KK : Int) := by rw [IntWalk.i64_in _ (by omega)]; omega
          rw [hn1] at H3
          rw [hn2] at H4
          have B9 := Lib.hid (b3.trans (B1.mono hs3))
          clear hfb hzn hn1 hn2 hk1 hk2 lT lD aW aT aD hjc
          go_wp2_with fail
          refine wp_region_past (by kernel_rfl) (by kernel_rfl) ?_
          iterate 22 go_big_quiet_step (fail)
          refine wpQuiet_nil ?_
          intro wn hw2
          obtain ⟨⟨wx, hn⟩, rfl⟩ := hw2
          try dsimp only
          clear p1 p2 B1 kb kz RW hbv hex
          go_wp2_with fail
          refine wp_region_tok [] 11 (fun _ _ _ => True) (by kernel_rfl) (by kernel_rfl) (by intro i hi; cases hi) ?_
          intro τ hτ
          clear hτ
          simp only [List.take_succ_cons, List.take_zero]
          iterate 3 (refine tokL_val (by decide) (by kernel_rfl) rfl ?_; intro K hK; go_big_quiet_op; go_big_quiet_on)
          refine tokL_call (by decide) (by kernel_rfl) (by kernel_rfl) ?_
          apply Exists.intro
          refine And.intro ?_ ?_
          focus
            intro x hg
            unfold Oper.quietAt
            go_simp
            (exact call_yields (H3.out ⟨_, hn.trans (x.h.mono hn.size)⟩))
          simp only [Act.put, List.setIfInBounds_toArray, List.set_cons_succ, List.set_cons_zero]
          iterate 4 (refine tokL_val (by decide) (by kernel_rfl) rfl ?_; intro K hK; go_big_quiet_op; go_big_quiet_on)
          refine tokL_call (by decide) (by kernel_rfl) (by kernel_rfl) ?_
          apply Exists.intro
          refine And.intro ?_ ?_
          focus
            intro x hg
            unfold Oper.quietAt
            go_simp
            (exact call_yields (H4.out ⟨_, hn.trans (x.h.mono hn.size)⟩))
          simp only [Act.put, List.setIfInBounds_toArray, List.set_cons_succ, List.set_cons_zero]
          iterate 2 (refine tokL_val (by decide) (by kernel_rfl) rfl ?_; intro K hK; go_big_quiet_op; go_big_quiet_on)
          refine tokL_nil ?_
          simp only [List.drop_succ_cons, List.drop_nil]
          intro y hy
          have B10 := Lib.hid (B9.out.trans ((hn.trans (hy.1.mono hn.size)).mono B9.out.size))
          clear hy hn H3 H4 B9
          go_wp2
          go_ret
          exact ⟨rfl, B10.out⟩
end Go.Proofs.YtmabigcolabbmaaGreatDoor
namespace Go.Proofs.YtmabigcolabbmaaGreatDoor
open Go Go.RowKit Go.Sort Go.Lib

theorem insL_perm {α : Type} {lt : α → α → Bool} (x : α) : ∀ l : List α, (insL lt x l).Perm (x :: l)
  | [] => List.Perm.refl _
  | y :: l => by
    rw [insL]
    split
    · exact List.Perm.refl _
    · exact ((insL_perm x l).cons y).trans (List.Perm.swap x y l)
theorem isortL_perm {α : Type} {lt : α → α → Bool} (L : List α) : (isortL lt L).Perm L := by
  have key : ∀ (L acc : List α), (L.foldl (fun acc x => insL lt x acc) acc).Perm (acc ++ L) := by
    intro L
    induction L with
    | nil => intro acc; rw [List.append_nil]; exact List.Perm.refl _
    | cons x L ih =>
      intro acc
      rw [List.foldl_cons]
      exact (ih _).trans (((insL_perm x acc).append_right L).trans (List.perm_middle.symm))
  exact key L []
/-- Two lists of the same items, one of which rises, are one, if the other one is in order. -/
theorem rise_unique {A B : List Itm} (hA : RiseI A) (hB : NoInv (ltOf ordI) B) (h : A.Perm B) : A = B := by
  refine List.Perm.eq_of_pairwise (le := fun x y : Itm => order x.b y.b ≤ 0) ?_ (hA.imp fun h => Int.le_of_lt h) (hB.imp ?_) h
  · intro a b ha hb h1 h2
    have hb2 := h.symm.subset hb
    by_cases e : a = b
    · exact e
    · exfalso
      obtain ⟨i, hi, rfl⟩ := List.getElem_of_mem ha
      obtain ⟨j, hj, rfl⟩ := List.getElem_of_mem hb2
      have hp := List.pairwise_iff_getElem.1 hA
      rcases Nat.lt_trichotomy i j with q | q | q
      · have := hp i j hi hj q
        have h3 := order_swap.1 this
        omega
      · subst q
        exact e rfl
      · have := hp j i hj hi q
        have h3 := order_swap.1 this
        omega
  · intro x y hxy
    have h1 : ¬ order y.b x.b < 0 := of_decide_eq_false hxy
    show order x.b y.b ≤ 0
    by_cases h0 : 0 < order x.b y.b
    · exact absurd (order_swap.2 h0) h1
    · omega
theorem items_perm {L M : List Lf} (h : L.Perm M) (h0 : chkL (itemsL L) = 0) : itemsL M = itemsL L := by
  refine (rise_unique (chkL_rise h0) (isortL_sorted weakI _) ?_).symm
  exact (isortL_perm (L.map leafI)).trans ((h.map leafI).trans (isortL_perm (M.map leafI)).symm)
/-- The order of the leaves doesn't matter to their tree. -/
theorem top_perm {L M : List Lf} (h : L.Perm M) : topL (itemsL L) = topL (itemsL M) ∨ (chkL (itemsL L) ≠ 0 ∧ chkL (itemsL M) ≠ 0) := by
  by_cases h1 : chkL (itemsL L) = 0
  · exact .inl (by rw [items_perm h h1])
  · by_cases h2 : chkL (itemsL M) = 0
    · exact .inl (by rw [items_perm h.symm h2])
    · exact .inr ⟨h1, h2⟩
end Go.Proofs.YtmabigcolabbmaaGreatDoor
namespace Go.Proofs.YtmabigcolabbmaaGreatDoor
open Go Go.ChangeShapes Go.WideShapes Go.ChangeAt Go.ChangeMaps Go.RowKit

theorem words_of {P : Program} {W : World} {enc : TypeId × Value → Unit} {sp : Nat → Bool} {T e n g fuel : Nat} {L : List Nat} {cs : Array Value} {ps : List MemPlace} (hcell : ∀ i, W.cell? ⟨g, i, none⟩ = cs[i]?)
    (hu : P.underlying T = some (.array n e)) (he : P.underlying e = some (.int .u32)) (ce : P.cellsOf e = 1) (hn : L.length = n)
    (hd : DataW.trod enc P W 0 sp false fuel T cs.toList = some (.agg (L.map fun k : Nat => .lit (.int .u32 (k : Int))), ps)) : ∀ i, i < n → W.cell? ⟨g, i, none⟩ = some (.int .u32 (L.getD i 0 : Nat)) := by
  obtain ⟨xs, m, _, hx, _, hl, hel⟩ := DataW.trod_array hu hd
  intro i hi
  have h1 := hel i hi
  rw [ce, List.getElem?_eq_getElem (show i < xs.length by omega)] at h1
  obtain ⟨k, e1, e2, _⟩ := DataW.trod_int he h1
  simp only [Prod.mk.injEq, DataW.agg.injEq] at hx
  have h2 : (L.map fun k : Nat => (DataW.lit (.int .u32 (k : Int)) : DataW Unit))[i]? = (xs.map (·.1))[i]? := by rw [hx.1]
  rw [List.getElem?_map, List.getElem?_map, List.getElem?_eq_getElem (show i < xs.length by omega), List.getElem?_eq_getElem (show i < L.length by omega), e2] at h2
  simp only [Option.map_some, Option.some.injEq, DataW.lit.injEq, Lit.int.injEq, true_and] at h2
  rw [hcell i, List.getD_eq_getElem?_getD, List.getElem?_eq_getElem (show i < L.length by omega)]
  have h3 : (List.take 1 (List.drop (i * 1) cs.toList))[0]? = some (.int .u32 k) := by rw [e1]; rfl
  have h4 : cs[i]? = some (.int .u32 k) := by simpa using h3
  rw [h4, ← h2]
  rfl
theorem gCubes : Tryz.prog.globalNamed "chirograph/sha.cubes" = some 1 := by kernel_rfl
theorem tCubes : (Tryz.prog.globals[1]?).map (·.type) = some 103 := by kernel_rfl
def laidSha {H : Type} : List (String × DataW H) := [("chirograph/sha.cubes", Rows.laid_chirograph_sha_cubes)]
theorem cellsOf_w32 : Tryz.prog.cellsOf 100 = 1 := by kernel_rfl
theorem cubesL_wv : ∀ i, i < 64 → wv (cubeT i) = ((cubesL.getD i 0 : Nat) : Int) := by
  have h : ((List.range 64).all fun i => (cubeT i).toNat == cubesL.getD i 0) = true := by decide +kernel
  intro i hi
  have := List.all_eq_true.1 h i (by simpa using hi)
  rw [beq_iff_eq] at this
  rw [wv, this]
theorem cubes_of_cells {W : World} (h : ∀ i, i < 64 → W.cell? ⟨1, i, none⟩ = some (.int .u32 (cubesL.getD i 0 : Nat))) : Cubes W := fun i hi => by
  rw [cubesL_wv i hi]
  exact h i hi
/-- What the condition gives: the table lies there. -/
theorem cubes_of_laid {W : World} (h : laidMetH Tryz.prog laidSha W) : Cubes W := by
  rw [MakeChecks.laidMetH_plain _ _ _ (by kernel_rfl)] at h
  obtain ⟨ps, ⟨g0, t0, cs0, f0, p0, q0, hg0, ht0, hv0, hd0, _, _⟩, _, _⟩ := h
  obtain rfl := Option.some.inj (gCubes.symm.trans hg0)
  obtain rfl := Option.some.inj (tCubes.symm.trans ht0)
  exact cubes_of_cells (words_of (L := cubesL) (World.var?_cell gCubes hv0) Tryz.underlying103 Tryz.underlying100 cellsOf_w32 rfl hd0)
/-- The door's own heap meets the condition. -/
theorem door_sha (os : Os) (args : Array Value) : laidMetH Tryz.prog laidSha ((World.doorLaid Tryz.prog 2000 os).forCall (fun _ _ => 0) ⟨#[], args, []⟩).memory :=
  laidMetH_of_parts3 (fuel := 8) (laidMet_of_run' 8 (by kernel_rfl) (by kernel_rfl)) (by kernel_rfl) (by kernel_rfl)
end Go.Proofs.YtmabigcolabbmaaGreatDoor
