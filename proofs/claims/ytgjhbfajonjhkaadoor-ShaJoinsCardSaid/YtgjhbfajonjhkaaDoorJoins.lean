/- For every tag and list of texts the law ShaJoins returns true. Conditions: the listed table is as the program lays it. -/
import Derived.Test.YtgjhbfajonjhkaaDoorShaLaw
import Derived.Test.YtgjhbfajonjhkaaDoorShaRef1
import Derived.Test.YtgjhbfajonjhkaaDoorShaTabs
import Derived.Test.YtgjhbfajonjhkaaDoorWild
import Derived.Test.YtgjhbfajonjhkaaDoorTie
import Derived.Test.YtgjhbfajonjhkaaDoorCards
import Derived.SevenTiedAt
namespace Go.Proofs.YtgjhbfajonjhkaaDoor.joins
open Go Go.ChangeShapes Go.WideShapes Go.ChangeAt Go.ChangeMaps Go.RowKit Go.Proofs.YtgjhbfajonjhkaaDoor


theorem conv_kept (c : UInt8) (w w2 : World) (h : Below (w.alloc (.cells #[.int .u8 (c.toNat : Int)] 5)).heap.size (w.alloc (.cells #[.int .u8 (c.toNat : Int)] 5)) w2) : (convert 33 9 (.slice (some ⟨w.heap.size, 0, none⟩) 1 1)).run Tryd.prog w2 = .ok (.string (stx [c])) w2 := by
  have r := rowAt_past h (rowAt_alloc_at w #[.int .u8 (c.toNat : Int)] 5 _ rfl)
  refine run_convert_bytes_back _ _ _ _ ⟨w.heap.size, 0, none⟩ 1 [c] Tryd.underlying33 Tryd.underlying5 Tryd.underlying9 fun j hj => ?_
  rw [show (⟨w.heap.size, 0, none⟩ : Addr).add j = ⟨w.heap.size, j, none⟩ by simp [Addr.add]; exact fun e => e.symm, cell_of_rowAt r]
  match j, hj with
  | 0, _ => rfl

set_option maxRecDepth 100000 in
set_option maxHeartbeats 4000000 in
theorem walk (c : UInt8) (v : Value) (len : Nat) (S : Nat → ByteArray) (w : World) (h1 : InStrs w v len S) (ht : Cubes w) : Calls Tryd.prog 5 #[.int .u8 (c.toNat : Int), v] w fun e w' => e = .returned (.bool true) ∧ Below w.heap.size w w' := by
  obtain ⟨ao1, cap1, rfl, hS1⟩ := h1
  have HS1 := Lib.hid hS1
  have HT := Lib.hid ht
  have a1 : Below w.heap.size w (w.alloc (.cells #[] 9)) := (Below.refl _ _).alloc (Nat.le_refl _) _
  have o1 : OwnStrs (w.alloc (.cells #[] 9)) w.heap.size (.slice (some ⟨w.heap.size, 0, none⟩) 0 0) (cutsL S 100 0) := ownStrs_new w _ _ rfl (Nat.le_refl _)
  clear hS1 ht
  go_enter Tryd.func5, Tryd.ntmps5
  go_wp2_with fail
  generalize (w.alloc (.cells #[] 9)) = W0 at *
  generalize hB : w.heap.size = B at *
  have HB := Lib.hid hB
  clear hB
  go_loopw [5, 6] (fun v x wr => ∃ i : Nat, i ≤ len ∧ i ≤ 8 ∧ x = .int .i64 i ∧ OwnStrs wr B v (cutsL S 100 i) ∧ Below B w wr) (fun _ x _ => (8 - intOf x).toNat)
  case atStart => exact ⟨0, Nat.zero_le _, Nat.zero_le _, rfl, o1, a1⟩
  case round =>
    obtain ⟨i, hi1, hi2, rfl, ow, b0⟩ := hrel
    clear o1 a1
    by_cases hgo : i < len ∧ i < 8
    · as_aux_lemma =>
      obtain ⟨gg1, gg2⟩ := hgo
      have g1' : decide (i < len) = true := decide_eq_true gg1
      have g2' : decide ((i : Int) < 8) = true := decide_eq_true (by omega)
      have g1n : (i : Int) < len := by omega
      obtain ⟨ad, hao, hc⟩ := HS1.out i gg1
      subst hao
      have c1 := (b0.cell (p := ad.add i) (by rw [← HB.out]; exact cellLt hc)).trans hc
      obtain ⟨L, hL⟩ : ∃ L, (S i).data.toList.take 100 = L := ⟨_, rfl⟩
      have HK : Hid (∀ w, Calls Tryd.prog 11 #[.string (S i), .int .i64 100] w fun e w' => e = .returned (.string (stx L)) ∧ w' = w) := Lib.hid fun w => by
        have := l3Cut_any (S i) 100 w (by decide)
        rwa [hL] at this
      have HTX : Hid (cutsL S 100 (i + 1) = cutsL S 100 i ++ [L]) := Lib.hid (by rw [cutsL_succ, hL])
      have hll : (cutsL S 100 i).length ≤ 1000000 := by rw [cutsL_length]; omega
      have HLL := Lib.hid hll
      have hBr : B ≤ wr.heap.size := by rw [← HB.out]; exact b0.size
      have hi8 : (i : Int) ≤ 8 := by omega
      clear hL hll hc
      go_wp2_with fail
      refine (HK.out _).mono ?_
      rintro e w1 ⟨rfl, rfl⟩
      have bq : Below w1.heap.size w1 (w1.alloc (.cells #[.string (stx L)] 9)) := (Below.refl _ _).alloc (Nat.le_refl _) _
      have ow2 := ow.below bq
      have b1 := below_past b0 bq hBr
      have hcell := cell_of_rowAt (rowAt_alloc_at w1 #[.string (stx L)] 9 _ rfl) 0
      go_wp2_with (at_builtin; refine wpList_put_text rfl _ _ rfl B _ _ rfl ow2 L ⟨w1.heap.size, 0, none⟩ 1 rfl hcell (by simp; omega) HLL.out ?_)
      intro v' w' hown hgrow hat
      have b2 := ow2.grown hgrow b1 (by simp; omega)
      rw [← HTX.out] at hown
      clear ow ow2 hgrow hat b0 b1 bq hcell c1
      go_wp2_with fail
      exact ⟨⟨i + 1, gg1, gg2, by go_num, hown, b2⟩, by simp [intOf]; omega⟩
    · by_cases hg1 : i < len
      · obtain rfl : i = 8 := by omega
        have g1' : decide ((8 : Nat) < len) = true := decide_eq_true hg1
        have g1n : ((8 : Nat) : Int) < len := by omega
        have g1m : (8 : Int) < len := by omega
        rw [show ((8 : Nat) : Int) = 8 from rfl]
        obtain ⟨m, hm⟩ : ∃ m, m = 8 := ⟨_, rfl⟩
        rw [← hm] at ow
        have HM : Hid (m ≤ 8) := Lib.hid (by omega)
        clear hm hgo
        go_wp2_with fail
        have hMB : B ≤ wr.heap.size := by rw [← HB.out]; exact b0.size
        obtain ⟨tx, htx⟩ : ∃ tx, cutsL S 100 m = tx := ⟨_, rfl⟩
        have HTX8 : Hid (tx.length ≤ 8) := Lib.hid (by rw [← htx, cutsL_length]; exact HM.out)
        have HT100 : Hid (∀ t ∈ tx, t.length ≤ 100) := Lib.hid (by rw [← htx]; exact cutsL_short _ _ _)
        rw [htx] at ow
        have SX := Lib.hid ow.lie
        have T0 : Hid (Cubes wr) := Lib.hid (HT.out.below (by rw [HB.out]; exact b0))
        have HJN := Lib.hid (joinL_len c tx HT100.out)
        have HA : Hid (∀ w', Below wr.heap.size wr w' → Calls Tryd.prog 12 #[] w' fun e w'' => e = .returned (.bool true) ∧ Below w'.heap.size w' w'') := Lib.hid fun w' hr => awake3 w' (T0.out.below hr)
        have HJ : Hid (∀ w', Below wr.heap.size wr w' → Calls Tryd.prog 17 #[.int .u8 (c.toNat : Int), u5] w' fun e w'' => e = .returned (.agg (cellsL (shaLab (joinL c tx)))) ∧ Below w'.heap.size w' w'') := Lib.hid fun w' hr => Joined_any c u5 tx w' (SX.out.below hr) (T0.out.below hr) HTX8.out HT100.out
        have HJ0 : Hid (∀ w', Below wr.heap.size wr w' → Calls Tryd.prog 17 #[.int .u8 (c.toNat : Int), .slice none 0 0] w' fun e w'' => e = .returned (.agg (cellsL (shaLab [c]))) ∧ Below w'.heap.size w' w'') := Lib.hid fun w' hr => Joined_any c (.slice none 0 0) [] w' ⟨none, 0, rfl, fun i hi => absurd hi (Nat.not_lt_zero i)⟩ (T0.out.below hr) (Nat.zero_le _) (fun t ht => by cases ht)
        have HBY : Hid (∀ w', Below wr.heap.size wr w' → Calls Tryd.prog 18 #[.int .u8 (c.toNat : Int), u5] w' fun e w'' => e = .returned (.string (stx (joinL c tx))) ∧ Below w'.heap.size w' w'') := Lib.hid fun w' hr => r3Bytes_any c u5 tx w' (SX.out.below hr) HTX8.out HT100.out
        have HSU : Hid (∀ w', Below wr.heap.size wr w' → Calls Tryd.prog 13 #[.string (stx (joinL c tx))] w' fun e w'' => e = .returned (.agg (cellsL (shaLab (joinL c tx)))) ∧ Below w'.heap.size w' w'') := Lib.hid fun w' hr => Sum_any (stx (joinL c tx)) w' (T0.out.below hr) (by rw [stx_size]; have := HJN.out; have := HTX8.out; omega)
        have HS1 : Hid (∀ w', Below wr.heap.size wr w' → Calls Tryd.prog 13 #[.string (stx [c])] w' fun e w'' => e = .returned (.agg (cellsL (shaLab [c]))) ∧ Below w'.heap.size w' w'') := Lib.hid fun w' hr => Sum_any (stx [c]) w' (T0.out.below hr) (by rw [stx_size, List.length_singleton]; omega)
        have HC0 : ∀ w w2 : World, Below (w.alloc (.cells #[.int .u8 (c.toNat : Int)] 5)).heap.size (w.alloc (.cells #[.int .u8 (c.toNat : Int)] 5)) w2 → Hid ((convert 33 9 (.slice (some ⟨w.heap.size, 0, none⟩) 1 1)).run Tryd.prog w2 = .ok (.string (stx [c])) w2) := fun w w2 h => Lib.hid (conv_kept c w w2 h)
        have HC := Lib.hid HC0
        clear HC0
        clear htx HM ow hi1 hi2
        generalize shaLab (joinL c tx) = LJ at *
        generalize stx (joinL c tx) = BJ at *
        generalize shaLab [c] = L1 at *
        generalize stx [c] = B1 at *
        have hlj : decide (LJ = LJ) = true := decide_eq_true rfl
        have hl1 : decide (L1 = L1) = true := decide_eq_true rfl
        as_aux_lemma =>
          refine wp_region_wildL [15] 21 (by kernel_rfl) (by kernel_rfl) ?_
          simp only [List.take_succ_cons, List.take_nil]
          refine wildL_call (by decide) (by kernel_rfl) (by kernel_rfl) ?_
          apply Exists.intro
          refine And.intro ?_ ?_
          focus
            intro x K hK
            go_big_quiet_op
            go_big_quiet_call (exact call_back (HA.out _ (Past.two _)))
            rfl
          iterate 3 (refine wildL_val (by decide) (by kernel_rfl) rfl ?_; intro K hK; go_big_quiet_op; go_big_quiet_on)
          refine wildL_call (by decide) (by kernel_rfl) (by kernel_rfl) ?_
          apply Exists.intro
          refine And.intro ?_ ?_
          focus
            intro x K hK
            go_big_quiet_op
            go_big_quiet_call (exact call_back (HJ.out _ (Past.two _)))
            rfl
          iterate 2 (refine wildL_val (by decide) (by kernel_rfl) rfl ?_; intro K hK; go_big_quiet_op; go_big_quiet_on)
          refine wildL_call (by decide) (by kernel_rfl) (by kernel_rfl) ?_
          apply Exists.intro
          refine And.intro ?_ ?_
          focus
            intro x K hK
            go_big_quiet_op
            go_big_quiet_call (exact call_back (HBY.out _ (Past.two _)))
            rfl
          refine wildL_call (by decide) (by kernel_rfl) (by kernel_rfl) ?_
          apply Exists.intro
          refine And.intro ?_ ?_
          focus
            intro x K hK
            go_big_quiet_op
            go_big_quiet_call (exact call_back (HSU.out _ (Past.two _)))
            rfl
          iterate 4 (refine wildL_val (by decide) (by kernel_rfl) rfl ?_; intro K hK; go_big_quiet_op; go_big_quiet_on)
          refine wildL_call (by decide) (by kernel_rfl) (by kernel_rfl) ?_
          apply Exists.intro
          refine And.intro ?_ ?_
          focus
            intro x K hK
            go_big_quiet_op
            go_big_quiet_call (exact call_back (HJ0.out _ (Past.two _)))
            rfl
          iterate 1 (refine wildL_val (by decide) (by kernel_rfl) rfl ?_; intro K hK; go_big_quiet_op; go_big_quiet_on)
          refine wildL_wild (by decide) (by kernel_rfl) ?_
          intro x K hK
          unfold wildAt
          go_simp
          refine ⟨(Below.refl _ _).alloc (Nat.le_refl _) _, hK _ _ ?_⟩
          simp only [Act.put, List.setIfInBounds_toArray, List.set_cons_succ, List.set_cons_zero]
          have bW := (Below.step (Below.refl _ _) x.h).alloc x.h.size (.cells #[.int .u8 (c.toNat : Int)] 5)
          have hcv : ∀ y : Past (x.w.alloc (.cells #[.int .u8 (c.toNat : Int)] 5)), (convert 33 9 (.slice (some ⟨x.w.heap.size, 0, none⟩) 1 1)).run Tryd.prog y.w = .ok (.string B1) y.w := fun y => (HC.out _ _ y.h).out
          refine wildL_val (by decide) (by kernel_rfl) rfl ?_; intro K hK; go_big_quiet_op; go_big_quiet_on
          refine wildL_call (by decide) (by kernel_rfl) (by kernel_rfl) ?_
          apply Exists.intro
          refine And.intro ?_ ?_
          focus
            intro x K hK
            go_big_quiet_op
            go_big_quiet_call (exact call_back (HS1.out _ (Below.step bW (Past.two _))))
            rfl
          iterate 3 (refine wildL_val (by decide) (by kernel_rfl) rfl ?_; intro K hK; go_big_quiet_op; go_big_quiet_on)
          refine wildL_nil ?_
          simp only [List.drop_succ_cons, List.drop_nil]
          rintro ⟨z, hz⟩
          have bZ := Below.step bW hz
          go_wp2_with fail
          go_ret
          exact ⟨rfl, by rw [HB.out]; exact below_past b0 bZ hMB⟩
      · obtain rfl : i = len := by omega
        have g1' : decide (i < i) = false := decide_eq_false hg1
        obtain ⟨m, hm⟩ : ∃ m, m = i := ⟨_, rfl⟩
        rw [← hm] at ow
        have HM : Hid (m ≤ 8) := Lib.hid (by omega)
        clear hm hgo
        go_wp2_with fail
        have hMB : B ≤ wr.heap.size := by rw [← HB.out]; exact b0.size
        obtain ⟨tx, htx⟩ : ∃ tx, cutsL S 100 m = tx := ⟨_, rfl⟩
        have HTX8 : Hid (tx.length ≤ 8) := Lib.hid (by rw [← htx, cutsL_length]; exact HM.out)
        have HT100 : Hid (∀ t ∈ tx, t.length ≤ 100) := Lib.hid (by rw [← htx]; exact cutsL_short _ _ _)
        rw [htx] at ow
        have SX := Lib.hid ow.lie
        have T0 : Hid (Cubes wr) := Lib.hid (HT.out.below (by rw [HB.out]; exact b0))
        have HJN := Lib.hid (joinL_len c tx HT100.out)
        have HA : Hid (∀ w', Below wr.heap.size wr w' → Calls Tryd.prog 12 #[] w' fun e w'' => e = .returned (.bool true) ∧ Below w'.heap.size w' w'') := Lib.hid fun w' hr => awake3 w' (T0.out.below hr)
        have HJ : Hid (∀ w', Below wr.heap.size wr w' → Calls Tryd.prog 17 #[.int .u8 (c.toNat : Int), u5] w' fun e w'' => e = .returned (.agg (cellsL (shaLab (joinL c tx)))) ∧ Below w'.heap.size w' w'') := Lib.hid fun w' hr => Joined_any c u5 tx w' (SX.out.below hr) (T0.out.below hr) HTX8.out HT100.out
        have HJ0 : Hid (∀ w', Below wr.heap.size wr w' → Calls Tryd.prog 17 #[.int .u8 (c.toNat : Int), .slice none 0 0] w' fun e w'' => e = .returned (.agg (cellsL (shaLab [c]))) ∧ Below w'.heap.size w' w'') := Lib.hid fun w' hr => Joined_any c (.slice none 0 0) [] w' ⟨none, 0, rfl, fun i hi => absurd hi (Nat.not_lt_zero i)⟩ (T0.out.below hr) (Nat.zero_le _) (fun t ht => by cases ht)
        have HBY : Hid (∀ w', Below wr.heap.size wr w' → Calls Tryd.prog 18 #[.int .u8 (c.toNat : Int), u5] w' fun e w'' => e = .returned (.string (stx (joinL c tx))) ∧ Below w'.heap.size w' w'') := Lib.hid fun w' hr => r3Bytes_any c u5 tx w' (SX.out.below hr) HTX8.out HT100.out
        have HSU : Hid (∀ w', Below wr.heap.size wr w' → Calls Tryd.prog 13 #[.string (stx (joinL c tx))] w' fun e w'' => e = .returned (.agg (cellsL (shaLab (joinL c tx)))) ∧ Below w'.heap.size w' w'') := Lib.hid fun w' hr => Sum_any (stx (joinL c tx)) w' (T0.out.below hr) (by rw [stx_size]; have := HJN.out; have := HTX8.out; omega)
        have HS1 : Hid (∀ w', Below wr.heap.size wr w' → Calls Tryd.prog 13 #[.string (stx [c])] w' fun e w'' => e = .returned (.agg (cellsL (shaLab [c]))) ∧ Below w'.heap.size w' w'') := Lib.hid fun w' hr => Sum_any (stx [c]) w' (T0.out.below hr) (by rw [stx_size, List.length_singleton]; omega)
        have HC0 : ∀ w w2 : World, Below (w.alloc (.cells #[.int .u8 (c.toNat : Int)] 5)).heap.size (w.alloc (.cells #[.int .u8 (c.toNat : Int)] 5)) w2 → Hid ((convert 33 9 (.slice (some ⟨w.heap.size, 0, none⟩) 1 1)).run Tryd.prog w2 = .ok (.string (stx [c])) w2) := fun w w2 h => Lib.hid (conv_kept c w w2 h)
        have HC := Lib.hid HC0
        clear HC0
        clear htx HM ow hi1 hi2
        generalize shaLab (joinL c tx) = LJ at *
        generalize stx (joinL c tx) = BJ at *
        generalize shaLab [c] = L1 at *
        generalize stx [c] = B1 at *
        have hlj : decide (LJ = LJ) = true := decide_eq_true rfl
        have hl1 : decide (L1 = L1) = true := decide_eq_true rfl
        as_aux_lemma =>
          refine wp_region_wildL [15] 21 (by kernel_rfl) (by kernel_rfl) ?_
          simp only [List.take_succ_cons, List.take_nil]
          refine wildL_call (by decide) (by kernel_rfl) (by kernel_rfl) ?_
          apply Exists.intro
          refine And.intro ?_ ?_
          focus
            intro x K hK
            go_big_quiet_op
            go_big_quiet_call (exact call_back (HA.out _ (Past.two _)))
            rfl
          iterate 3 (refine wildL_val (by decide) (by kernel_rfl) rfl ?_; intro K hK; go_big_quiet_op; go_big_quiet_on)
          refine wildL_call (by decide) (by kernel_rfl) (by kernel_rfl) ?_
          apply Exists.intro
          refine And.intro ?_ ?_
          focus
            intro x K hK
            go_big_quiet_op
            go_big_quiet_call (exact call_back (HJ.out _ (Past.two _)))
            rfl
          iterate 2 (refine wildL_val (by decide) (by kernel_rfl) rfl ?_; intro K hK; go_big_quiet_op; go_big_quiet_on)
          refine wildL_call (by decide) (by kernel_rfl) (by kernel_rfl) ?_
          apply Exists.intro
          refine And.intro ?_ ?_
          focus
            intro x K hK
            go_big_quiet_op
            go_big_quiet_call (exact call_back (HBY.out _ (Past.two _)))
            rfl
          refine wildL_call (by decide) (by kernel_rfl) (by kernel_rfl) ?_
          apply Exists.intro
          refine And.intro ?_ ?_
          focus
            intro x K hK
            go_big_quiet_op
            go_big_quiet_call (exact call_back (HSU.out _ (Past.two _)))
            rfl
          iterate 4 (refine wildL_val (by decide) (by kernel_rfl) rfl ?_; intro K hK; go_big_quiet_op; go_big_quiet_on)
          refine wildL_call (by decide) (by kernel_rfl) (by kernel_rfl) ?_
          apply Exists.intro
          refine And.intro ?_ ?_
          focus
            intro x K hK
            go_big_quiet_op
            go_big_quiet_call (exact call_back (HJ0.out _ (Past.two _)))
            rfl
          iterate 1 (refine wildL_val (by decide) (by kernel_rfl) rfl ?_; intro K hK; go_big_quiet_op; go_big_quiet_on)
          refine wildL_wild (by decide) (by kernel_rfl) ?_
          intro x K hK
          unfold wildAt
          go_simp
          refine ⟨(Below.refl _ _).alloc (Nat.le_refl _) _, hK _ _ ?_⟩
          simp only [Act.put, List.setIfInBounds_toArray, List.set_cons_succ, List.set_cons_zero]
          have bW := (Below.step (Below.refl _ _) x.h).alloc x.h.size (.cells #[.int .u8 (c.toNat : Int)] 5)
          have hcv : ∀ y : Past (x.w.alloc (.cells #[.int .u8 (c.toNat : Int)] 5)), (convert 33 9 (.slice (some ⟨x.w.heap.size, 0, none⟩) 1 1)).run Tryd.prog y.w = .ok (.string B1) y.w := fun y => (HC.out _ _ y.h).out
          refine wildL_val (by decide) (by kernel_rfl) rfl ?_; intro K hK; go_big_quiet_op; go_big_quiet_on
          refine wildL_call (by decide) (by kernel_rfl) (by kernel_rfl) ?_
          apply Exists.intro
          refine And.intro ?_ ?_
          focus
            intro x K hK
            go_big_quiet_op
            go_big_quiet_call (exact call_back (HS1.out _ (Below.step bW (Past.two _))))
            rfl
          iterate 3 (refine wildL_val (by decide) (by kernel_rfl) rfl ?_; intro K hK; go_big_quiet_op; go_big_quiet_on)
          refine wildL_nil ?_
          simp only [List.drop_succ_cons, List.drop_nil]
          rintro ⟨z, hz⟩
          have bZ := Below.step bW hz
          go_wp2_with fail
          go_ret
          exact ⟨rfl, by rw [HB.out]; exact below_past b0 bZ hMB⟩
set_option maxRecDepth 100000 in
theorem lifted (os : Os) (started : os.Started) (H : Type) (enc : TypeId × Value → H) :
    ReturnsInHanded {} Tryd.checked os 5 .any (fun w args => (Rows.shaJoinsSpec.pre enc Tryd.prog Tryd.f5 [] false w args ∧ laidMetH Tryd.prog laidSha w) ∧ sizedMet enc Tryd.prog Tryd.f5 (OpenSpec.ofChange Rows.shaJoinsSpec) false w args) (Rows.shaJoinsSpec.post enc Tryd.prog Tryd.f5 false true false false) := by
  refine returnsInHanded_of_change_and (C := Tryd.checked) (X := fun w _ => laidMetH Tryd.prog laidSha w) (fun _ _ _ hh h => h.of_heap hh) own started (by kernel_rfl) Tryd.func5
    (ChangeSpec.witness_shaped (enc := enc) (C := Tryd.checked) (os := os) (X := fun w _ => laidMetH Tryd.prog laidSha w) false (World.doorLaid Tryd.prog 2000 os) #[.int .u8 0, .slice none 0 0] 8 rfl (World.shaped_of_RefB (by kernel_rfl) (by kernel_rfl)) (by kernel_rfl) (by kernel_rfl) (by kernel_rfl) (door_sha os _)) ?_
  intro W base args ds gs before hval0 hW _ _ hL _
  have hval : ∀ (j : Nat) t v, Tryd.f5.params[j]? = some t → args[j]? = some v → Value.okWide Tryd.prog W .any base t v := hval0
  clear hval0
  have hW' := hW
  obtain ⟨p, q, hA0, hV, rfl, hfz, hnd⟩ := hW
  have hA : DataW.TrodAll enc Tryd.prog W 0 (fun _ => true) true Tryd.f5.params.toList args.toList ds p := hA0
  rw [Tryd.params5] at hA hval
  clear hA0 hfz hnd hV
  have hr : Readable Tryd.f5.params.toList := by
    rw [Tryd.params5]
    exact readable_of_all (by kernel_rfl)
  have fin : ∀ W', Below W.heap.size W W' → Rows.shaJoinsSpec.post enc Tryd.prog Tryd.f5 false true false false W args (.bool true) W' := fun W' hb =>
    law_post rfl hW' hr (fun l hl => by
      rw [Tryd.params5] at hl
      match l, hl with
      | [d1, d2], _ => rfl) (by kernel_rfl) hb
  clear hW' hr
  have HT := cubes_of_laid hL
  obtain ⟨v0, v1, d0, d1, p0, p1, rfl, rfl, rfl, h0, h1⟩ := trodAll_two hA; obtain ⟨p8, rfl⟩ := in_byte Tryd.underlying5 (hval 0 5 v0 rfl rfl) h0; obtain ⟨l1, S1, hs1⟩ := in_strs Tryd.underlying30 Tryd.underlying9 cellsOf_string (hval 1 30 v1 rfl rfl) h1
  exact (walk p8 v1 l1 S1 W hs1 HT).mono fun e W' ⟨he, hb⟩ => ⟨_, he, fin W' hb⟩
theorem row_holds : Rows.ShaJoinsSaid :=
  OpenClaim.holds_of_wide 5 Tryd.f5 rfl rfl rfl rfl rfl rfl rfl ⟨rfl, rfl, rfl, rfl, rfl⟩ rfl rfl rfl rfl rfl (by kernel_rfl) Tryd.func5 (by kernel_rfl)
    (of_decide_eq_true (by kernel_rfl)) (by unfold Func.isWrapper; first | (rw [if_pos (by decide +kernel)]; kernel_rfl) | (rw [if_neg (by decide +kernel)]; exact ⟨rfl, rfl⟩))
    (fun os started H enc _ => lifted os started H enc)
theorem proved : Rows.ShaJoinsCardSaid :=
  Claim7.holds_tied_plain_at .later [] [.data] true _ false
    row_holds (fun _ h => by cases h) (by kernel_rfl) (fun _ h => by cases h) shaJoins_row_tie rfl ⟨rfl, rfl⟩ (by kernel_rfl) rfl
    (fun f fn hf hfn => by
      obtain rfl : f = 5 := Option.some.inj ((show Tryd.prog.funcNamed "chirograph/chirographlaw03.ShaJoins" = some 5 by kernel_rfl).symm.trans hf) |>.symm
      obtain rfl : fn = Tryd.f5 := (Option.some.inj (Tryd.func5.symm.trans hfn)).symm
      exact ⟨by kernel_rfl, fun j t ht => by
        rw [Tryd.params5] at ht
        have hm : t ∈ [5, 30] := by simpa using Array.mem_of_getElem? ht
        have hall : ([5, 30].all fun u => !Tryd.prog.wantsStandIn u) = true := by kernel_rfl
        exact (show Tryd.prog.wantsStandIn t = false by simpa using List.all_eq_true.1 hall t hm)⟩)
    (by kernel_rfl)
end Go.Proofs.YtgjhbfajonjhkaaDoor.joins
