/- Levels: answers that the document fixes: the walk. Conditions: none. -/
import Derived.Test.YtfklhkephdnhaaaLevel18
namespace Go.Proofs.Ytfklhkephdnhaaa
open Go Go.RowKit Go.Maps

theorem flsAt_row {w : World} {g : Nat} {es : List Fl} {t : TypeId} {fz : Nat × Nat} (h : w.heap[g]? = some (.cells (flCells es).toArray t fz)) (hl : es.length ≤ 1000) : FlsAt w (.slice (some ⟨g, 0, none⟩) es.length es.length) es := by
  refine ⟨_, _, rfl, Nat.le_refl _, by unfold maxLen; omega, fun i x hi => ⟨g, 0, rfl, ?_⟩⟩
  have e := flCells_get es i x hi
  have z : 0 + i * 5 = i * 5 := Nat.zero_add _
  have c : ∀ k, k < 5 → w.cell? ⟨g, i * 5 + k, none⟩ = (flC x)[k]? := fun k hk => by
    rw [Lib.cell_of_heap h (i * 5 + k), ← e k hk]
    simp
  unfold FlAt
  rw [z]
  exact ⟨c 0 (by decide), c 1 (by decide), c 2 (by decide), c 3 (by decide), c 4 (by decide)⟩
theorem nsAt_two {w : World} {g : Nat} {k l : Int} (hk : in64 k) (hl : in64 l) (h : w.cell? ⟨g, 0, none⟩ = some (.int .i64 k)) (h2 : w.cell? ⟨g, 1, none⟩ = some (.int .i64 l)) : NsAt w (.slice (some ⟨g, 0, none⟩) 2 2) [k, l] := by
  refine ⟨_, _, rfl, Nat.le_refl _, by decide, fun x hx => ?_, fun i x hi => ⟨_, rfl, ?_⟩⟩
  · rcases List.mem_cons.1 hx with e | e
    · rw [e]; exact hk
    · rw [List.mem_singleton.1 e]; exact hl
  · have := (List.getElem?_eq_some_iff.1 hi).1
    rcases (by simp at this; omega : i = 0 ∨ i = 1) with e | e
    · subst e
      have : k = x := by simpa using hi
      rw [← this]
      exact h
    · subst e
      have : l = x := by simpa using hi
      rw [← this]
      exact h2
theorem awL_ok : ∀ f ∈ awL, FlOk f := by
  intro f hf
  unfold awL at hf
  simp only [List.mem_cons, List.mem_nil_iff, or_false] at hf
  rcases hf with rfl | rfl | rfl <;> exact ⟨by unfold in64; decide, by unfold in64; decide, by unfold in64; decide, by decide, by decide⟩
set_option maxRecDepth 100000 in
set_option maxHeartbeats 4000000 in
theorem awake11 (w : World) : Calls Try.prog 14 #[] w fun e w' => e = .returned (.bool true) ∧ Below w.heap.size w w' := by
  go_enter Try.func14, Try.ntmps14
  go_wp2_with fail
  have hf : (w.alloc (.cells (flCells awL).toArray 58)).heap[w.heap.size]? = some (.cells (flCells awL).toArray 58 (0, 0)) := heap_alloc_new w _
  have a0 : Below w.heap.size w (w.alloc (.cells (flCells awL).toArray 58)) := (Below.refl _ _).alloc (Nat.le_refl _) _
  have fl0 := flsAt_row hf (by decide)
  have hs0 : (w.alloc (.cells (flCells awL).toArray 58)).heap.size = w.heap.size + 1 := by simp
  change Calls _ _ _ ((w.alloc (.cells (flCells awL).toArray 58)).alloc (.cells #[.int .i64 4, .int .i64 0, .slice (some ⟨w.heap.size, 0, none⟩) 3 3] 24)) _
  generalize w.alloc (.cells (flCells awL).toArray 58) = W0 at *
  clear hf
  have a1 : Below W0.heap.size W0 (W0.alloc (.cells #[.int .i64 4, .int .i64 0, .slice (some ⟨w.heap.size, 0, none⟩) 3 3] 24)) := (Below.refl _ _).alloc (Nat.le_refl _) _
  have fl1 := fl0.below a1
  have c0 : (W0.alloc (.cells #[.int .i64 4, .int .i64 0, .slice (some ⟨w.heap.size, 0, none⟩) 3 3] 24)).cell? ⟨W0.heap.size, 0, none⟩ = some (.int .i64 4) := cell_new _ _ _ 0
  have c1 : (W0.alloc (.cells #[.int .i64 4, .int .i64 0, .slice (some ⟨w.heap.size, 0, none⟩) 3 3] 24)).cell? ⟨W0.heap.size, 1, none⟩ = some (.int .i64 0) := cell_new _ _ _ 1
  have c2 : (W0.alloc (.cells #[.int .i64 4, .int .i64 0, .slice (some ⟨w.heap.size, 0, none⟩) 3 3] 24)).cell? ⟨W0.heap.size, 2, none⟩ = some (.slice (some ⟨w.heap.size, 0, none⟩) 3 3) := cell_new _ _ _ 2
  have b1 := a0.trans (a1.mono (by omega))
  generalize W0.alloc (.cells #[.int .i64 4, .int .i64 0, .slice (some ⟨w.heap.size, 0, none⟩) 3 3] 24) = W1 at *
  rw [hs0] at c0 c1 c2
  have HB1 := Lib.hid b1
  have hs1 : w.heap.size ≤ W1.heap.size := b1.size
  change FlsAt _ (.slice (some ⟨w.heap.size, 0, none⟩) 3 3) _ at fl1
  clear a0 fl0 hs0 a1 b1
  have F1 := Lib.hid fl1
  have HP := Lib.hid (lPick_any 4 0 2 100 _ awL W1 fl1 (by decide) (by unfold in64; decide) (by unfold in64; decide) awL_ok)
  rw [aw_pick] at HP
  unfold stV at HP
  clear fl1
  generalize hB : w.heap.size = B at *
  have HB := Lib.hid hB
  clear hB
  refine HP.out.mono ?_
  rintro e w2 ⟨va, vb, rfl, o1, o2, b2⟩
  dsimp only [Option.getD_some] at o1 o2
  have O1 := Lib.hid (o1.lie (by intro k hk; simp at hk; rcases hk with rfl | rfl <;> (unfold in64; decide)))
  have O2 := Lib.hid (o2.lie (by intro k hk; simp at hk; rcases hk with rfl; unfold in64; decide))
  have B2 := Lib.hid (HB1.out.trans (b2.mono hs1))
  have hs2 := Nat.le_trans hs1 b2.size
  have F2 := Lib.hid (F1.out.below b2)
  have d0 := (b2.cell (p := ⟨B + 1, 0, none⟩) (cellLt c0)).trans c0
  have d1 := (b2.cell (p := ⟨B + 1, 1, none⟩) (cellLt c1)).trans c1
  have d2 := (b2.cell (p := ⟨B + 1, 2, none⟩) (cellLt c2)).trans c2
  obtain ⟨ao1, cap1, rfl⟩ := o1.shape
  obtain ⟨ao2, cap2, rfl⟩ := o2.shape
  clear HP o1 o2 b2 c0 c1 c2 HB1 hs1 F1
  rw [show ([3, 2] : List Int).length = 2 from rfl] at O1 ⊢
  rw [show ([1] : List Int).length = 1 from rfl] at O2 ⊢
  dsimp only [Option.getD_some, Option.isSome_some]
  have a3 : Below w2.heap.size w2 (w2.alloc (.cells #[.int .i64 0, .slice ao1 2 cap1, .slice ao2 1 cap2] 44)) := (Below.refl _ _).alloc (Nat.le_refl _) _
  have e0 := (a3.cell (p := ⟨B + 1, 0, none⟩) (cellLt d0)).trans d0
  have e1 := (a3.cell (p := ⟨B + 1, 1, none⟩) (cellLt d1)).trans d1
  have e2 := (a3.cell (p := ⟨B + 1, 2, none⟩) (cellLt d2)).trans d2
  have j0 : (w2.alloc (.cells #[.int .i64 0, .slice ao1 2 cap1, .slice ao2 1 cap2] 44)).cell? ⟨w2.heap.size, 0, none⟩ = some (.int .i64 0) := cell_new _ _ _ 0
  have j1 : (w2.alloc (.cells #[.int .i64 0, .slice ao1 2 cap1, .slice ao2 1 cap2] 44)).cell? ⟨w2.heap.size, 1, none⟩ = some (.slice ao1 2 cap1) := cell_new _ _ _ 1
  have j2 : (w2.alloc (.cells #[.int .i64 0, .slice ao1 2 cap1, .slice ao2 1 cap2] 44)).cell? ⟨w2.heap.size, 2, none⟩ = some (.slice ao2 1 cap2) := cell_new _ _ _ 2
  have B3 := Lib.hid (B2.out.trans (a3.mono hs2))
  have hs3 := Nat.le_trans hs2 a3.size
  have F3 := Lib.hid (F2.out.below a3)
  have P1 := Lib.hid (O1.out.below a3)
  have P2 := Lib.hid (O2.out.below a3)
  go_upto_region 3 with fail
  generalize w2.alloc (.cells #[.int .i64 0, .slice ao1 2 cap1, .slice ao2 1 cap2] 44) = W3 at *
  generalize w2.heap.size = bj at *
  clear a3 d0 d1 d2 B2 hs2 F2 O1 O2
  have HCK := Lib.hid (lCheck_any ⟨4, 0, awL⟩ _ W3 F3.out (by unfold in64; decide) (by unfold in64; decide) awL_ok)
  rw [aw_check] at HCK
  unfold stV at HCK
  dsimp only at HCK
  go_wp2_with fail
  refine HCK.out.mono ?_
  rintro e w4 ⟨rfl, b4⟩
  replace B3 := Lib.hid (B3.out.trans (b4.mono hs3))
  replace hs3 := Nat.le_trans hs3 b4.size
  replace F3 := Lib.hid (F3.out.below b4)
  replace P1 := Lib.hid (P1.out.below b4)
  replace P2 := Lib.hid (P2.out.below b4)
  replace e0 := (b4.cell (p := ⟨B + 1, 0, none⟩) (cellLt e0)).trans e0
  replace e1 := (b4.cell (p := ⟨B + 1, 1, none⟩) (cellLt e1)).trans e1
  replace e2 := (b4.cell (p := ⟨B + 1, 2, none⟩) (cellLt e2)).trans e2
  replace j0 := (b4.cell (p := ⟨bj, 0, none⟩) (cellLt j0)).trans j0
  replace j1 := (b4.cell (p := ⟨bj, 1, none⟩) (cellLt j1)).trans j1
  replace j2 := (b4.cell (p := ⟨bj, 2, none⟩) (cellLt j2)).trans j2
  clear HCK b4
  have a5 : Below w4.heap.size w4 (w4.alloc (.cells #[.int .i64 3, .int .i64 2] 3)) := (Below.refl _ _).alloc (Nat.le_refl _) _
  have HS1 := Lib.hid (r11SameInts_any _ _ _ _ _ (P1.out.below a5) (nsAt_two (k := 3) (l := 2) (by unfold in64; decide) (by unfold in64; decide) (cell_new w4 #[.int .i64 3, .int .i64 2] 3 0) (cell_new w4 #[.int .i64 3, .int .i64 2] 3 1)))
  rw [decide_eq_true rfl] at HS1
  go_wp2_with fail
  refine HS1.out.mono ?_
  rintro e w5 ⟨rfl, b5⟩
  have b6 := a5.trans (b5.mono a5.size)
  replace B3 := Lib.hid (B3.out.trans (b6.mono hs3))
  replace hs3 := Nat.le_trans hs3 b6.size
  replace F3 := Lib.hid (F3.out.below b6)
  replace P1 := Lib.hid (P1.out.below b6)
  replace P2 := Lib.hid (P2.out.below b6)
  replace e0 := (b6.cell (p := ⟨B + 1, 0, none⟩) (cellLt e0)).trans e0
  replace e1 := (b6.cell (p := ⟨B + 1, 1, none⟩) (cellLt e1)).trans e1
  replace e2 := (b6.cell (p := ⟨B + 1, 2, none⟩) (cellLt e2)).trans e2
  replace j0 := (b6.cell (p := ⟨bj, 0, none⟩) (cellLt j0)).trans j0
  replace j1 := (b6.cell (p := ⟨bj, 1, none⟩) (cellLt j1)).trans j1
  replace j2 := (b6.cell (p := ⟨bj, 2, none⟩) (cellLt j2)).trans j2
  clear HS1 b5 a5 b6
  have a7 : Below w5.heap.size w5 (w5.alloc (.cells #[.int .i64 1] 3)) := (Below.refl _ _).alloc (Nat.le_refl _) _
  have HS2 := Lib.hid (r11SameInts_any _ _ _ _ _ (P2.out.below a7) (nsAt_one (k := 1) (cell_new w5 #[.int .i64 1] 3 0) (by unfold in64; decide)))
  rw [decide_eq_true rfl] at HS2
  go_wp2_with fail
  refine HS2.out.mono ?_
  rintro e w6 ⟨rfl, b6⟩
  have b7 := a7.trans (b6.mono a7.size)
  replace B3 := Lib.hid (B3.out.trans (b7.mono hs3))
  replace hs3 := Nat.le_trans hs3 b7.size
  replace F3 := Lib.hid (F3.out.below b7)
  replace P1 := Lib.hid (P1.out.below b7)
  replace P2 := Lib.hid (P2.out.below b7)
  replace e0 := (b7.cell (p := ⟨B + 1, 0, none⟩) (cellLt e0)).trans e0
  replace e1 := (b7.cell (p := ⟨B + 1, 1, none⟩) (cellLt e1)).trans e1
  replace e2 := (b7.cell (p := ⟨B + 1, 2, none⟩) (cellLt e2)).trans e2
  replace j0 := (b7.cell (p := ⟨bj, 0, none⟩) (cellLt j0)).trans j0
  replace j1 := (b7.cell (p := ⟨bj, 1, none⟩) (cellLt j1)).trans j1
  replace j2 := (b7.cell (p := ⟨bj, 2, none⟩) (cellLt j2)).trans j2
  clear HS2 b6 a7 b7
  have HLA := Lib.hid (lLast_any 4 0 0 _ _ _ awL [3, 2] [1] w6 F3.out P1.out P2.out (by decide) (by decide) awL_ok (by unfold in64; decide))
  rw [aw_last] at HLA
  unfold stV at HLA
  go_wp2_with fail
  refine HLA.out.mono ?_
  rintro e w7 ⟨rfl, b7⟩
  replace B3 := B3.out.trans (b7.mono hs3)
  clear HLA b7 F3 P1 P2
  go_wp2_with fail
  go_ret
  exact ⟨rfl, by rw [HB.out]; exact B3⟩
end Go.Proofs.Ytfklhkephdnhaaa
