/- Entries that came in: a copy of the first ones, cut; those that rise. Conditions: none. -/
import Derived.Test.YtfklhkephdnhaaaEnts2
import Derived.Test.YtfklhkephdnhaaaQuiet
import Derived.Test.YtfklhkephdnhaaaToks
import Derived.Deep.QuietTactic
import Derived.BigQuiet
import Derived.OwnWalk
namespace Go.Proofs.Ytfklhkephdnhaaa
open Go Go.RowKit

/-- Entries that came in. -/
def InEnts (w : World) (v : Value) (es : List Ent) : Prop :=
  ∃ ao cap, v = .slice ao es.length cap ∧ es.length ≤ cap ∧ cap ≤ maxLen ∧ ∀ i x, es[i]? = some x → ∃ a : Addr, ao = some a ∧ w.cell? (a.add (i * 3)) = some (.string (stx x.key)) ∧ w.cell? (a.add (i * 3 + 1)) = some (.string (stx x.val)) ∧ w.cell? (a.add (i * 3 + 2)) = some (.bool x.gone)
theorem InEnts.below {w w' : World} {v : Value} {es : List Ent} (h : InEnts w v es) (k : Below w.heap.size w w') : InEnts w' v es := by
  obtain ⟨ao, cap, h1, h2, h3, h4⟩ := h
  refine ⟨ao, cap, h1, h2, h3, fun i x hi => ?_⟩
  obtain ⟨a, h5, h6, h7, h8⟩ := h4 i x hi
  exact ⟨a, h5, (k.cell (p := a.add (i * 3)) (cellLt h6)).trans h6, (k.cell (p := a.add (i * 3 + 1)) (cellLt h7)).trans h7, (k.cell (p := a.add (i * 3 + 2)) (cellLt h8)).trans h8⟩
theorem add_twoE (a : Addr) (m j : Nat) : (a.add m).add j = a.add (m + j) := by
  unfold Addr.add
  by_cases hm : m = 0
  · simp [hm]
  · by_cases hj : j = 0
    · simp [hj]
    · simp [hm, hj, Nat.add_assoc]
theorem add_posE (a : Addr) (k : Nat) (hk : 0 < k) : a.add k = ⟨a.block, a.off + k, none⟩ := by
  unfold Addr.add
  rw [if_neg (by omega)]
def cutE (x : Ent) : Ent := ⟨x.key.take 110, x.val.take 4010, x.gone⟩
def fewE (n : Nat) (es : List Ent) : List Ent := (es.take n).map cutE
theorem fewE_length (n : Nat) (es : List Ent) : (fewE n es).length = min n es.length := by simp [fewE]
theorem fewE_succ (es : List Ent) (i : Nat) (x : Ent) (h : es[i]? = some x) : fewE (i + 1) es = fewE i es ++ [cutE x] := by
  unfold fewE
  rw [List.take_add_one, h]
  simp
theorem fewE_small (n : Nat) (es : List Ent) : ∀ x ∈ fewE n es, x.key.length ≤ 110 ∧ x.val.length ≤ 4010 := by
  intro x hx
  obtain ⟨y, _, rfl⟩ := List.mem_map.1 hx
  exact ⟨List.length_take_le _ _, List.length_take_le _ _⟩
theorem fewE_all (n : Nat) (es : List Ent) (h : es.length ≤ n) : fewE n es = fewE es.length es := by
  unfold fewE
  rw [List.take_of_length_le h, List.take_of_length_le (Nat.le_refl _)]
set_option maxRecDepth 100000 in
set_option maxHeartbeats 2000000 in
theorem few9_any (v : Value) (es : List Ent) (n : Nat) (w : World) (h : InEnts w v es) (hn : n ≤ 1000) :
    Calls Try.prog 62 #[v, .int .i64 n] w fun e w' => ∃ v', e = .returned v' ∧ OwnEnts w' w.heap.size v' (fewE n es) ∧ Below w.heap.size w w' := by
  obtain ⟨ao, cap, rfl, h1, h2, h3⟩ := h
  have H3 := Lib.hid h3
  obtain ⟨len, hlen⟩ : ∃ len, es.length = len := ⟨_, rfl⟩
  have HL := Lib.hid hlen
  rw [hlen] at h1 ⊢
  have b0 : Below w.heap.size w (w.alloc (.cells #[] 66)) := (Below.refl _ _).alloc (Nat.le_refl _) _
  have o0 := ownEnts_new w w.heap.size w.heap.size rfl (Nat.le_refl _)
  have hli : (len : Int) ≤ 9223372036854775807 := by unfold maxLen at h2; omega
  have hni : (n : Int) ≤ 1000 := by omega
  clear h3 hlen h1 h2
  go_enter Try.func62, Try.ntmps62
  go_wp2_with fail
  generalize w.alloc (.cells #[] 66) = W0 at *
  generalize hB : w.heap.size = B at *
  have HB := Lib.hid hB
  clear hB
  go_loopw [5, 6] (fun u x wr => ∃ i : Nat, i ≤ len ∧ i ≤ n ∧ x = .int .i64 i ∧ OwnEnts wr B u (fewE i es) ∧ Below B w wr) (fun _ x _ => (n - intOf x).toNat)
  case atStart => exact ⟨0, Nat.zero_le _, Nat.zero_le _, rfl, o0, b0⟩
  case round =>
    obtain ⟨i, hi1, hi2, rfl, ow, b1⟩ := hrel
    clear b0 o0
    have hBr : B ≤ wr.heap.size := by have := b1.size; rw [HB.out] at this; exact this
    by_cases hgo : i < len ∧ i < n
    · obtain ⟨gg1, gg2⟩ := hgo
      have g1' : decide (i < len) = true := decide_eq_true gg1
      have g2' : decide (i < n) = true := decide_eq_true gg2
      have g1n : (i : Int) < len := by omega
      have g2n : (i : Int) < n := by omega
      obtain ⟨x, hx⟩ : ∃ x, es[i]? = some x := ⟨_, List.getElem?_eq_getElem (by rw [HL.out]; exact gg1)⟩
      obtain ⟨a, rfl, k0, k1, k2⟩ := H3.out i x hx
      have c0 := (b1.cell (p := a.add (i * 3)) (by rw [← HB.out]; exact cellLt k0)).trans k0
      have c1 := (b1.cell (p := a.add (i * 3 + 1)) (by rw [← HB.out]; exact cellLt k1)).trans k1
      have c2 := (b1.cell (p := a.add (i * 3 + 2)) (by rw [← HB.out]; exact cellLt k2)).trans k2
      rw [← add_twoE, add_posE _ 1 (by decide)] at c1
      rw [← add_twoE, add_posE _ 2 (by decide)] at c2
      have HX : Hid (fewE (i + 1) es = fewE i es ++ [cutE x]) := Lib.hid (fewE_succ es i x hx)
      have hlen : (fewE i es).length ≤ 1000000 := by rw [fewE_length]; omega
      have r0 : rowAt (wr.alloc (.cells #[.string (stx x.key), .string (stx x.val), .bool x.gone] 66)) wr.heap.size = some #[.string (stx x.key), .string (stx x.val), .bool x.gone] := rowAt_alloc_at _ _ _ _ rfl
      have b2 := b1.alloc hBr (.cells #[.string (stx x.key), .string (stx x.val), .bool x.gone] 66)
      have ow2 : OwnEnts (wr.alloc (.cells #[.string (stx x.key), .string (stx x.val), .bool x.gone] 66)) B _ (fewE i es) := World.ownsRow.alloc ow _
      have HK : ∀ W, Hid (Calls Try.prog 30 #[.string (stx x.key), .int .i64 110] W fun e w' => e = .returned (.string (stx (x.key.take 110))) ∧ Below W.heap.size W w') := fun W => Lib.hid ((l3Cut_any (stx x.key) 110 W (by decide)).mono fun e w' ⟨h1, h2⟩ => ⟨h1, by rw [h2]; exact Below.refl _ _⟩)
      have HV : ∀ W, Hid (Calls Try.prog 30 #[.string (stx x.val), .int .i64 4010] W fun e w' => e = .returned (.string (stx (x.val.take 4010))) ∧ Below W.heap.size W w') := fun W => Lib.hid ((l3Cut_any (stx x.val) 4010 W (by decide)).mono fun e w' ⟨h1, h2⟩ => ⟨h1, by rw [h2]; exact Below.refl _ _⟩)
      have hz2 : B ≤ (wr.alloc (.cells #[.string (stx x.key), .string (stx x.val), .bool x.gone] 66)).heap.size := Nat.le_trans hBr (by simp)
      have HS : Hid (wr.heap.size = wr.heap.size) := Lib.hid rfl
      clear k0 k1 k2 hx b1 ow
      go_wp2_with fail
      generalize hg : wr.heap.size = gz at *
      generalize wr.alloc (.cells #[.string (stx x.key), .string (stx x.val), .bool x.gone] 66) = W at *
      have y0 : ∀ y : Past W, y.w.cell? ⟨gz, 0, none⟩ = some (.string (stx x.key)) := fun y => (cell_of_rowAt (Past.row r0 y) 0).trans rfl
      have y1 : ∀ y : Past W, y.w.cell? ⟨gz, 1, none⟩ = some (.string (stx x.val)) := fun y => (cell_of_rowAt (Past.row r0 y) 1).trans rfl
      have y2 : ∀ y : Past W, y.w.cell? ⟨gz, 2, none⟩ = some (.bool x.gone) := fun y => (cell_of_rowAt (Past.row r0 y) 2).trans rfl
      clear hg HS
      rw [show [cutE x] = [(⟨x.key.take 110, x.val.take 4010, x.gone⟩ : Ent)] from rfl] at HX
      generalize x.key.take 110 = ck at *
      generalize x.val.take 4010 = cv at *
      generalize x.gone = cg at *
      generalize fewE i es = L at *
      obtain ⟨R, hR⟩ : ∃ R : Nat → Value → World → Prop, R 10 = (fun v W' => ∃ g, v = .slice (some ⟨g, 0, none⟩) 1 1 ∧ EntAt W' g 0 ⟨ck, cv, cg⟩) := ⟨fun _ => _, rfl⟩
      have HS : Hid (∀ i ∈ [10], ∃ v W', Below W.heap.size W W' ∧ R i v W') := Lib.hid (by
        intro i hi
        obtain rfl := List.mem_singleton.1 hi
        rw [hR]
        exact ⟨_, W.alloc (.cells #[.string (stx ck), .string (stx cv), .bool cg] 66), (Below.refl _ _).alloc (Nat.le_refl _) _, W.heap.size, rfl, entAt_new W ⟨ck, cv, cg⟩ _ rfl⟩)
      refine wp_region_tok [10] 11 R (by kernel_rfl) (by kernel_rfl) HS.out ?_
      intro τ hτ
      rcases e1 : τ 10 with ⟨v1, W1⟩
      have t1 := hτ 10 (by simp)
      rw [e1, hR] at t1
      dsimp only at t1
      obtain ⟨hb1, g1, rfl, hc1⟩ := t1
      clear HS hτ
      simp only [List.take_succ_cons, List.take_zero]
      iterate 3 (refine tokL_val (by decide) (by kernel_rfl) rfl ?_; intro K hK; go_big_quiet_op; go_big_quiet_on)
      refine tokL_call (by decide) (by kernel_rfl) (by kernel_rfl) ?_
      apply Exists.intro
      refine And.intro ?_ ?_
      focus
        intro x hg
        unfold Oper.quietAt
        go_simp
        (exact call_yields (HK _).out)
      simp only [Act.put, List.setIfInBounds_toArray, List.set_cons_succ, List.set_cons_zero]
      iterate 2 (refine tokL_val (by decide) (by kernel_rfl) rfl ?_; intro K hK; go_big_quiet_op; go_big_quiet_on)
      refine tokL_call (by decide) (by kernel_rfl) (by kernel_rfl) ?_
      apply Exists.intro
      refine And.intro ?_ ?_
      focus
        intro x hg
        unfold Oper.quietAt
        go_simp
        (exact call_yields (HV _).out)
      simp only [Act.put, List.setIfInBounds_toArray, List.set_cons_succ, List.set_cons_zero]
      iterate 3 (refine tokL_val (by decide) (by kernel_rfl) rfl ?_; intro K hK; go_big_quiet_op; go_big_quiet_on)
      refine tokL_tok e1 (by decide) (by kernel_rfl) ?_ ?_
      focus
        intro x hg
        unfold wildAt
        go_simp
        (exact ⟨(Below.refl _ _).alloc (Nat.le_refl _) _, entAt_new _ ⟨ck, cv, cg⟩ _ rfl⟩)
      simp only [Act.put, List.setIfInBounds_toArray, List.set_cons_succ, List.set_cons_zero]
      refine tokL_nil ?_
      simp only [List.drop_succ_cons, List.drop_zero]
      intro z hz3
      have hz := hz3.1
      have hc3 := hc1.below (by have := hz3.2 10 (by simp) rfl; rw [e1] at this; exact this)
      have ow3 := ow2.below hz
      have b3 := below_past b2 hz hz2
      have hBz : B ≤ z.heap.size := Nat.le_trans hz2 hz.size
      clear y0 y1 y2 r0 c0 c1 c2 ow2 b2 hz hz3 HK HV hc1 hb1
      go_wp2_with (at_builtin; refine wpList_put_ent rfl _ _ rfl B _ L rfl ow3 ⟨ck, cv, cg⟩ g1 1 rfl hc3 hBz hlen ?_)
      intro v5 w5 hown5 hgrow5 _
      have b5 := ow3.grown hgrow5 b3 hBz
      clear hgrow5 hc3 ow3 b3
      go_wp2_with fail
      exact ⟨⟨i + 1, gg1, gg2, by go_num, by rw [HX.out]; exact hown5, b5⟩, by simp [intOf]; omega⟩
    · have HF : Hid (fewE n es = fewE i es) := Lib.hid (by
        by_cases hg1 : i < len
        · rw [show i = n by omega]
        · rw [show i = es.length by rw [HL.out]; omega, fewE_all n es (by rw [HL.out]; omega)])
      by_cases hg1 : i < len
      · obtain rfl : i = n := by omega
        have g1' : decide (i < len) = true := decide_eq_true hg1
        have g1n : (i : Int) < len := by omega
        clear hgo
        go_wp2_with fail
        go_ret
        exact ⟨_, rfl, by rw [HB.out]; exact ow, by rw [HB.out]; exact b1⟩
      · obtain rfl : i = len := by omega
        clear hgo hg1
        go_wp2_with fail
        go_ret
        exact ⟨_, rfl, by rw [HF.out, HB.out]; exact ow, by rw [HB.out]; exact b1⟩
end Go.Proofs.Ytfklhkephdnhaaa
