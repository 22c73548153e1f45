/- Entries that rise, of entries that came in. Conditions: none. -/
import Derived.Test.YtgddmbfacmgfpaaEnts5
import Derived.Test.YtgddmbfacmgfpaaQuiet
import Derived.Deep.QuietTactic
import Derived.BigQuiet
namespace Go.Proofs.Ytgddmbfacmgfpaa
open Go Go.RowKit

theorem OwnEnts.lieB {w : World} {B : Nat} {v : Value} {es : List Ent} (h : OwnEnts w B v es) : ∃ A cap, v = .slice A es.length cap ∧ ∀ i x, es[i]? = some x → ∃ g, A = some ⟨g, 0, none⟩ ∧ B ≤ g ∧ g < w.heap.size ∧ v.ownBlock = some g ∧ EntAt w g (i * 3) x := by
  obtain ⟨A, cap, h1, _, _, h4⟩ := h.lie
  refine ⟨A, cap, h1, fun i x hx => ?_⟩
  obtain ⟨g, o, h5, h6⟩ := h4 i x hx
  rcases h.2 with ⟨h7, h0⟩ | ⟨g', cap', cur, h7, hb, _⟩
  · rw [List.eq_nil_of_length_eq_zero h0] at hx
    simp at hx
  · rw [h1, h5] at h7
    obtain ⟨⟨rfl, rfl⟩, _⟩ : (g = g' ∧ o = 0) ∧ cap = cap' := by simpa using h7
    refine ⟨g, h5, hb, h6.lt, by rw [h1, h5]; rfl, by rwa [Nat.zero_add] at h6⟩
/-- All that lay there but one block is as it was. -/
def StayE (C : Nat) (a w : World) : Prop := a.heap.size ≤ w.heap.size ∧ ∀ k, k < a.heap.size → k ≠ C → w.heap[k]? = a.heap[k]?
theorem StayE.below {C : Nat} {a w w' : World} (h : StayE C a w) (k : Below w.heap.size w w') : StayE C a w' :=
  ⟨Nat.le_trans h.1 k.size, fun i h1 h2 => (k.block i (Nat.lt_of_lt_of_le h1 h.1)).trans (h.2 i h1 h2)⟩
theorem StayE.grown {C : Nat} {a w w' : World} {row : Option Nat} (h : StayE C a w) (hg : w.grownBy w' row) (hr : row = some C ∨ ∃ g, row = some g ∧ a.heap.size ≤ g) : StayE C a w' :=
  ⟨Nat.le_trans h.1 hg.size, fun i h1 h2 => (hg.block i (Nat.lt_of_lt_of_le h1 h.1) (fun e => by
    rcases hr with e2 | ⟨g, e2, h3⟩
    · rw [e2] at e; exact h2 (Option.some.inj e)
    · rw [e2] at e; have := Option.some.inj e; omega)).trans (h.2 i h1 h2)⟩
theorem EntAt.stay {C g o : Nat} {a w : World} {x : Ent} (h : EntAt a g o x) (s : StayE C a w) (hg : g ≠ C) : EntAt w g o x := by
  have hl := h.lt
  have e : ∀ k, w.cell? ⟨g, k, none⟩ = a.cell? ⟨g, k, none⟩ := fun k => World.cell?_of_block (s.2 g hl hg)
  exact ⟨(e _).trans h.1, (e _).trans h.2.1, (e _).trans h.2.2⟩
set_option maxRecDepth 100000 in
set_option maxHeartbeats 4000000 in
theorem rising_any (v : Value) (es : List Ent) (n : Nat) (w : World) (h : InEnts w v es) (hn : n ≤ 1000) :
    Calls Try.prog 30 #[v, .int .i64 n] w fun e w' => ∃ v', e = .returned v' ∧ OwnEnts w' w.heap.size v' (riseE (fewE n es)) ∧ Below w.heap.size w w' := by
  have a0 : Below w.heap.size w (w.alloc (.cells #[] 71)) := (Below.refl _ _).alloc (Nat.le_refl _) _
  have o0 := ownEnts_new w w.heap.size w.heap.size rfl (Nat.le_refl _)
  have HF := Lib.hid (few9_any v es n _ (h.below a0) hn)
  have hm : (fewE n es).length ≤ 1000 := by rw [fewE_length]; omega
  clear h
  generalize fewE n es = F at *
  obtain ⟨m, hmm⟩ : ∃ m, F.length = m := ⟨_, rfl⟩
  rw [hmm] at hm
  have HM := Lib.hid hmm
  have hmi : (m : Int) ≤ 1000 := by omega
  clear hmm hn
  have hs0 : (w.alloc (.cells #[] 71)).heap.size = w.heap.size + 1 := by simp
  go_enter Try.func30, Try.ntmps30
  go_wp2_with fail
  generalize w.alloc (.cells #[] 71) = W0 at *
  refine HF.out.mono ?_
  rintro e w1 ⟨v1, rfl, o1, b1⟩
  obtain ⟨A, cap, rfl, h3⟩ := o1.lieB
  rw [hs0] at h3
  rw [HM.out]
  generalize hC : w.heap.size = C at *
  have HC := Lib.hid hC
  have hCz : C ≤ W0.heap.size := by omega
  have s0 : StayE C w1 w1 := ⟨Nat.le_refl _, fun _ _ _ => rfl⟩
  have c0 : Below C w w1 := below_past a0 b1 hCz
  have ow0 := o0.below b1
  have H3 := Lib.hid h3
  have HS0 := Lib.hid s0
  clear HF h3 hC o1 b1 a0 o0 hs0 s0 hCz
  go_wp2_with fail
  go_loopw [5, 13] (fun al ix wr => ∃ (i : Nat) (L : List Ent), i ≤ m ∧ ix = .int .i64 i ∧ OwnEnts wr C al L ∧ Below C w wr ∧ Hid (StayE C w1 wr) ∧ Hid (L = riseE (F.take i)) ∧ Hid (al.ownBlock = some C ∨ ∃ g, al.ownBlock = some g ∧ w1.heap.size ≤ g)) (fun _ ix _ => (m - intOf ix).toNat)
  case atStart => exact ⟨0, [], Nat.zero_le _, rfl, ow0, c0, HS0, Lib.hid rfl, Lib.hid (.inl rfl)⟩
  case round =>
    obtain ⟨i, L, hi, rfl, ow, b1, HS, HL, HAT⟩ := hrel
    clear ow0 c0 HS0
    have hCr : C ≤ wr.heap.size := by have := b1.size; rw [HC.out] at this; exact this
    by_cases hlt : i < m
    · have hlt' : (i : Int) < m := by omega
      obtain ⟨x, hx⟩ : ∃ x, F[i]? = some x := ⟨_, List.getElem?_eq_getElem (by rw [HM.out]; exact hlt)⟩
      obtain ⟨g, rfl, hg1, hg2, hg3, hat0⟩ := H3.out i x hx
      obtain ⟨c0, c1, c2⟩ := hat0.stay HS.out (by omega)
      have hst : Hid (stepR L x = riseE (F.take (i + 1))) := Lib.hid (by rw [riseE_take F i x hx, HL.out])
      have hlen : L.length ≤ 1000000 := by
        have h1 := riseE_length (F.take i)
        rw [HL.out]
        rw [List.length_take] at h1
        omega
      have s2 := HS.out.below ((Below.refl _ _).alloc (Nat.le_refl _) (.cells #[.string (stx x.key), .string (stx x.val), .bool x.gone] 71))
      have r0 : rowAt (wr.alloc (.cells #[.string (stx x.key), .string (stx x.val), .bool x.gone] 71)) wr.heap.size = some #[.string (stx x.key), .string (stx x.val), .bool x.gone] := rowAt_alloc_at _ _ _ _ rfl
      have b2 := b1.alloc hCr (.cells #[.string (stx x.key), .string (stx x.val), .bool x.gone] 71)
      have ow2 : OwnEnts (wr.alloc (.cells #[.string (stx x.key), .string (stx x.val), .bool x.gone] 71)) C _ L := World.ownsRow.alloc ow _
      have hz2 : C ≤ (wr.alloc (.cells #[.string (stx x.key), .string (stx x.val), .bool x.gone] 71)).heap.size := Nat.le_trans hCr (by simp)
      have hat := HAT.out
      obtain ⟨A2, cap2, rfl⟩ := ow.shape
      clear hat0 hx HS HAT HL b1 ow
      rcases hq : L.getLast? with _ | y
      · have hL0 : L = [] := List.getLast?_eq_none_iff.1 hq
        subst hL0
        have hst2 : Hid ([x] = riseE (F.take (i + 1))) := Lib.hid hst.out
        clear hst hq
        rw [List.length_nil] at *
        go_wp2_with fail
        generalize wr.heap.size = gz at *
        generalize wr.alloc (.cells #[.string (stx x.key), .string (stx x.val), .bool x.gone] 71) = W at *
        refine wp_region_past (by kernel_rfl) (by kernel_rfl) ?_
        repeat (go_big_quiet_step (fail))
        refine wpQuiet_nil ?_
        intro w2 hw2
        obtain ⟨⟨wn, hn⟩, rfl⟩ := hw2
        try dsimp only
        have ow3 := ow2.below hn
        have b3 := below_past b2 hn hz2
        have s3 := s2.below hn
        have hz3 : C ≤ w2.heap.size := Nat.le_trans hz2 hn.size
        have q0 := rowAt_past hn r0
        have d0 := (cell_of_rowAt q0 0).trans (rfl : _ = some (Value.string (stx x.key)))
        have d1 := (cell_of_rowAt q0 1).trans (rfl : _ = some (Value.string (stx x.val)))
        have d2 := (cell_of_rowAt q0 2).trans (rfl : _ = some (Value.bool x.gone))
        clear ow2 b2 s2 hn hz2 r0 q0
        have hwz : w2.heap.size ≤ (w2.alloc (.cells #[.string (stx x.key), .string (stx x.val), .bool x.gone] 71)).heap.size := by simp
        have ow4 : OwnEnts (w2.alloc (.cells #[.string (stx x.key), .string (stx x.val), .bool x.gone] 71)) C _ [] := World.ownsRow.alloc ow3 _
        have hc4 := entAt_new w2 x w2.heap.size rfl
        have bb4 := b3.alloc hz3 (.cells #[.string (stx x.key), .string (stx x.val), .bool x.gone] 71)
        have s4 := s3.below ((Below.refl _ _).alloc (Nat.le_refl _) (.cells #[.string (stx x.key), .string (stx x.val), .bool x.gone] 71))
        have S4 := Lib.hid s4
        have HAT := Lib.hid hat
        clear s3 s4 hat ow3
        go_wp2_with (at_builtin; refine wpList_put_ent rfl _ _ rfl C _ [] rfl ow4 x w2.heap.size 1 rfl hc4 (Nat.le_trans hz3 hwz) hlen ?_)
        intro v5 w5 hown5 hgrow5 hat5
        have b5 := ow4.grown hgrow5 bb4 (Nat.le_trans hz3 hwz)
        have s5 := Lib.hid (S4.out.grown hgrow5 HAT.out)
        have a5 := Lib.hid (show v5.ownBlock = some C ∨ ∃ g, v5.ownBlock = some g ∧ w1.heap.size ≤ g from by
          rcases hat5 with e | e
          · rw [e]; exact HAT.out
          · exact .inr ⟨_, e, by have := S4.out.1; simpa using this⟩)
        clear hgrow5 hat5 hc4 ow4 bb4 hwz S4 HAT
        go_wp2_with fail
        exact ⟨⟨i + 1, [x], hlt, by go_num, hown5, b5, s5, hst2, a5⟩, by simp [intOf]; omega⟩
      · obtain ⟨p, hp⟩ : ∃ p, L.length = p + 1 := by
          cases L with
          | nil => simp at hq
          | cons z L => exact ⟨L.length, rfl⟩
        obtain ⟨A3, cap3, e3, hl3⟩ := ow2.lieB
        have hyp : L[p]? = some y := by
          rw [List.getLast?_eq_getElem?, hp] at hq
          exact hq
        obtain ⟨g2, rfl, _, _, hg5, hat2⟩ := hl3 p y hyp
        obtain ⟨rfl, _⟩ : A2 = some ⟨g2, 0, none⟩ ∧ cap2 = cap3 := by
          have := e3
          simp only [Value.slice.injEq, true_and] at this
          exact this
        have hpp : (p : Int) ≤ 1000000 := by omega
        have hpn : (1 : Int) ≤ (p : Int) + 1 := by omega
        have hp0 : decide ((p : Int) + 1 = 0) = false := decide_eq_false (by omega)
        have hp1 : ((p : Int) + 1 == 0) = false := by rw [beq_eq_false_iff_ne]; omega
        have HP := Lib.hid hp
        rw [hp]
        have hless := lessE y.key x.key
        clear hl3 e3 hyp hg5 hp
        by_cases hk : y.key < x.key
        · rw [decide_eq_true hk] at hless
          have hst2 : Hid (L ++ [x] = riseE (F.take (i + 1))) := Lib.hid (by rw [← hst.out]; unfold stepR; rw [hq]; exact (if_pos hk).symm)
          rw [HP.out] at hat ow2
          clear hst hq hk
          go_wp2_with fail
          generalize wr.heap.size = gz at *
          generalize wr.alloc (.cells #[.string (stx x.key), .string (stx x.val), .bool x.gone] 71) = W at *
          have y0 : ∀ q : Past W, q.w.cell? ⟨gz, 0, none⟩ = some (.string (stx x.key)) := fun q => (cell_of_rowAt (Past.row r0 q) 0).trans rfl
          have y1 : ∀ q : Past W, q.w.cell? ⟨g2, p * 3, none⟩ = some (.string (stx y.key)) := fun q => (q.h.cell (p := ⟨g2, p * 3, none⟩) hat2.lt).trans hat2.1
          clear hat2
          refine wp_region_past (by kernel_rfl) (by kernel_rfl) ?_
          repeat (go_big_quiet_step (fail))
          refine wpQuiet_nil ?_
          intro w2 hw2
          obtain ⟨⟨wn, hn⟩, rfl⟩ := hw2
          try dsimp only
          clear y0 y1
          have ow3 := ow2.below hn
          have b3 := below_past b2 hn hz2
          have s3 := s2.below hn
          have hz3 : C ≤ w2.heap.size := Nat.le_trans hz2 hn.size
          have q0 := rowAt_past hn r0
          have d0 := (cell_of_rowAt q0 0).trans (rfl : _ = some (Value.string (stx x.key)))
          have d1 := (cell_of_rowAt q0 1).trans (rfl : _ = some (Value.string (stx x.val)))
          have d2 := (cell_of_rowAt q0 2).trans (rfl : _ = some (Value.bool x.gone))
          clear ow2 b2 s2 hn hz2 r0 q0
          have hwz : w2.heap.size ≤ (w2.alloc (.cells #[.string (stx x.key), .string (stx x.val), .bool x.gone] 71)).heap.size := by simp
          have ow4 : OwnEnts (w2.alloc (.cells #[.string (stx x.key), .string (stx x.val), .bool x.gone] 71)) C _ L := World.ownsRow.alloc ow3 _
          have hc4 := entAt_new w2 x w2.heap.size rfl
          have bb4 := b3.alloc hz3 (.cells #[.string (stx x.key), .string (stx x.val), .bool x.gone] 71)
          have s4 := s3.below ((Below.refl _ _).alloc (Nat.le_refl _) (.cells #[.string (stx x.key), .string (stx x.val), .bool x.gone] 71))
          have S4 := Lib.hid s4
          have HAT := Lib.hid hat
          clear s3 s4 hat ow3
          go_wp2_with (at_builtin; refine wpList_put_ent rfl _ _ rfl C _ L rfl ow4 x w2.heap.size 1 rfl hc4 (Nat.le_trans hz3 hwz) hlen ?_)
          intro v5 w5 hown5 hgrow5 hat5
          have b5 := ow4.grown hgrow5 bb4 (Nat.le_trans hz3 hwz)
          have s5 := Lib.hid (S4.out.grown hgrow5 HAT.out)
          have a5 := Lib.hid (show v5.ownBlock = some C ∨ ∃ g, v5.ownBlock = some g ∧ w1.heap.size ≤ g from by
            rcases hat5 with e | e
            · rw [e]; exact HAT.out
            · exact .inr ⟨_, e, by have := S4.out.1; simpa using this⟩)
          clear hgrow5 hat5 hc4 ow4 bb4 hwz S4 HAT
          go_wp2_with fail
          exact ⟨⟨i + 1, L ++ [x], hlt, by go_num, hown5, b5, s5, hst2, a5⟩, by simp [intOf]; omega⟩
        · rw [decide_eq_false hk] at hless
          have hst2 : Hid (L = riseE (F.take (i + 1))) := Lib.hid (by rw [← hst.out]; unfold stepR; rw [hq]; exact (if_neg hk).symm)
          have HAT2 := Lib.hid hat
          clear hst hq hk hat
          go_wp2_with fail
          generalize wr.heap.size = gz at *
          generalize wr.alloc (.cells #[.string (stx x.key), .string (stx x.val), .bool x.gone] 71) = W at *
          have y0 : ∀ q : Past W, q.w.cell? ⟨gz, 0, none⟩ = some (.string (stx x.key)) := fun q => (cell_of_rowAt (Past.row r0 q) 0).trans rfl
          have y1 : ∀ q : Past W, q.w.cell? ⟨g2, p * 3, none⟩ = some (.string (stx y.key)) := fun q => (q.h.cell (p := ⟨g2, p * 3, none⟩) hat2.lt).trans hat2.1
          clear hat2
          refine wp_region_past (by kernel_rfl) (by kernel_rfl) ?_
          repeat (go_big_quiet_step (fail))
          refine wpQuiet_nil ?_
          intro w2 hw2
          obtain ⟨⟨wn, hn⟩, rfl⟩ := hw2
          try dsimp only
          have ow3 := ow2.below hn
          have b3 := below_past b2 hn hz2
          have s3 := Lib.hid (s2.below hn)
          clear y0 y1 ow2 b2 s2 hn
          rw [HP.out] at HAT2
          rw [HP.out] at ow3
          go_wp2_with fail
          exact ⟨⟨i + 1, L, hlt, by go_num, ow3, b3, s3, hst2, HAT2⟩, by simp [intOf]; omega⟩
    · obtain rfl : i = m := by omega
      have HF : Hid (riseE F = L) := Lib.hid (by rw [HL.out, List.take_of_length_le (by rw [HM.out]; exact Nat.le_refl _)])
      go_wp2_with fail
      go_ret
      exact ⟨_, rfl, by rw [HF.out, HC.out]; exact ow, by rw [HC.out]; exact b1⟩
end Go.Proofs.Ytgddmbfacmgfpaa
