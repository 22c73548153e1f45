/- Levels: the table of the least number. Conditions: none. -/
import Derived.Test.YtfklhkephdnhaaaLevel12
namespace Go.Proofs.Ytfklhkephdnhaaa
open Go Go.RowKit Go.Maps Go.Lib

set_option maxRecDepth 100000 in
theorem lPick1_any (a b : Fl) (w : World) :
    Calls Try.prog 49 #[.agg (flArr a), .agg (flArr b)] w fun e w' => e = .returned (.int .i64 (Lib.compareInt a.num b.num)) ∧ Below w.heap.size w w' := by
  have hb := order_below a b w
  unfold flArr at *
  go_enter Try.func49, Try.ntmps49
  go_wp2_with (go_at_call 50; refine (Try.cmp_Compare_int _ _ _).mono ?_; rintro e w2 ⟨rfl, rfl⟩)
  go_ret
  exact ⟨rfl, hb⟩
def MinW (B : Nat) (w : World) (b4 b5 : Nat) (m : Fl) (wr : World) : Prop :=
  Below B w wr ∧ B ≤ b4 ∧ b4 < b5 ∧ wr.heap[b4]? = some (.cells (flArr ⟨0, 0, 0, [], []⟩) 58 (0, 0)) ∧ wr.heap[b5]? = some (.cells (flArr m) 58 (0, 0))
theorem oldF_step {L : List Fl} {i : Nat} {f : Fl} (h : L[i]? = some f) (m : Fl) : oldF (L.drop i) m = oldF (L.drop (i + 1)) (if f.num < m.num then f else m) := by
  rw [drop_at h]
  rfl
theorem five_cells {w : World} {b : Nat} {m : Fl} (s5 : w.heap[b]? = some (.cells (flArr m) 58 (0, 0))) : w.cell? ⟨b, 0, none⟩ = some (.int .i64 m.num) ∧ w.cell? ⟨b, 1, none⟩ = some (.int .i64 m.lev) ∧ w.cell? ⟨b, 2, none⟩ = some (.int .i64 m.size) ∧ w.cell? ⟨b, 3, none⟩ = some (.string (stx m.first)) ∧ w.cell? ⟨b, 4, none⟩ = some (.string (stx m.last)) :=
  ⟨(Lib.cell_of_heap s5 0).trans rfl, (Lib.cell_of_heap s5 1).trans rfl, (Lib.cell_of_heap s5 2).trans rfl, (Lib.cell_of_heap s5 3).trans rfl, (Lib.cell_of_heap s5 4).trans rfl⟩
/-- A table is written over another one. -/
def setFive (w : World) (b : Nat) (f : Fl) : World := ((((w.setCell ⟨b, 0, none⟩ (.int .i64 f.num)).setCell ⟨b, 1, none⟩ (.int .i64 f.lev)).setCell ⟨b, 2, none⟩ (.int .i64 f.size)).setCell ⟨b, 3, none⟩ (.string (stx f.first))).setCell ⟨b, 4, none⟩ (.string (stx f.last))
theorem grown_five (w : World) (b : Nat) (f : Fl) : w.grownBy (setFive w b f) (some b) :=
  ((((grown_setCell w b 0 _).trans (grown_setCell _ b 1 _)).trans (grown_setCell _ b 2 _)).trans (grown_setCell _ b 3 _)).trans (grown_setCell _ b 4 _)
theorem heap_five {w : World} {b : Nat} {m : Fl} (h : w.heap[b]? = some (.cells (flArr m) 58 (0, 0))) (f : Fl) : (setFive w b f).heap[b]? = some (.cells (flArr f) 58 (0, 0)) := by
  unfold setFive
  rw [heap_put (heap_put (heap_put (heap_put (heap_put h _) _) _) _) _]
  rfl
set_option maxRecDepth 100000 in
set_option maxHeartbeats 4000000 in
theorem minFls_any (v : Value) (L : List Fl) (w : World) (h : FlsAt w v L) (hl : L.length ≤ 1000000) (f0 : Fl) (hf0 : L[0]? = some f0) :
    Calls Try.prog 48 #[v, .func (.func 49) #[] #[]] w fun e w' => e = .returned (flV (oldF L f0)) ∧ Below w.heap.size w w' := by
  have hpos : 0 < L.length := (List.getElem?_eq_some_iff.1 hf0).1
  have HV : Hid (oldF L f0 = oldF (L.drop 1) f0) := Lib.hid (by
    have := oldF_step hf0 f0
    rw [if_neg (by omega)] at this
    exact this)
  rw [HV.out]
  clear HV
  obtain ⟨OT, hOT⟩ : ∃ OT, oldF (L.drop 1) f0 = OT := ⟨_, rfl⟩
  have HOT := Lib.hid hOT
  rw [hOT]
  clear hOT
  obtain ⟨ao, cap, rfl, l1, l2, l3⟩ := h
  obtain ⟨n, hn⟩ : ∃ n, L.length = n := ⟨_, rfl⟩
  have HN := Lib.hid hn
  have L3 := Lib.hid l3
  rw [hn] at l1 hl ⊢
  have hli : (n : Int) ≤ 1000000 := by omega
  clear l1 l2 l3 hn
  have hnp : ¬ (n : Int) < 1 := by have := HN.out; omega
  have hnp2 : ¬ n < 1 := by have := HN.out; omega
  have hnp3 : (0 : Int) < n := by have := HN.out; omega
  have hnp4 : 0 < n := by have := HN.out; omega
  obtain ⟨g, o, rfl, hat⟩ := L3.out 0 f0 hf0
  rw [Nat.zero_mul, Nat.add_zero] at hat
  have a1 : Below w.heap.size w (w.alloc (.cells (flArr ⟨0, 0, 0, [], []⟩) 58)) := (Below.refl _ _).alloc (Nat.le_refl _) _
  obtain ⟨c0, c1, c2, c3, c4⟩ := hat.below a1
  unfold flV
  clear hat hpos
  obtain ⟨w1, hw1⟩ : ∃ w1, w.alloc (.cells #[.int .i64 0, .int .i64 0, .int .i64 0, .string ⟨#[]⟩, .string ⟨#[]⟩] 58) = w1 := ⟨_, rfl⟩
  have s4 : w1.heap[w.heap.size]? = some (.cells (flArr ⟨0, 0, 0, [], []⟩) 58 (0, 0)) := by rw [← hw1]; exact heap_alloc_new w _
  have hs1 : w1.heap.size = w.heap.size + 1 := by rw [← hw1]; simp
  change Below w.heap.size w (w.alloc (.cells #[.int .i64 0, .int .i64 0, .int .i64 0, .string ⟨#[]⟩, .string ⟨#[]⟩] 58)) at a1
  change (w.alloc (.cells #[.int .i64 0, .int .i64 0, .int .i64 0, .string ⟨#[]⟩, .string ⟨#[]⟩] 58)).cell? _ = _ at c0 c1 c2 c3 c4
  rw [hw1] at a1 c0 c1 c2 c3 c4
  have a2 : Below w1.heap.size w1 (w1.alloc (.cells #[.int .i64 f0.num, .int .i64 f0.lev, .int .i64 f0.size, .string (stx f0.first), .string (stx f0.last)] 58)) := (Below.refl _ _).alloc (Nat.le_refl _) _
  have HS := Lib.hid (show MinW w.heap.size w w.heap.size w1.heap.size f0 (w1.alloc (.cells #[.int .i64 f0.num, .int .i64 f0.lev, .int .i64 f0.size, .string (stx f0.first), .string (stx f0.last)] 58)) from
    ⟨a1.trans (a2.mono (by omega)), Nat.le_refl _, by omega, (a2.block _ (by omega)).trans s4, heap_alloc_new w1 _⟩)
  clear a1 a2 s4 hf0
  go_enter Try.func48, Try.ntmps48
  go_wp2_with fail
  generalize w1.alloc (.cells #[.int .i64 f0.num, .int .i64 f0.lev, .int .i64 f0.size, .string (stx f0.first), .string (stx f0.last)] 58) = W at *
  rw [hs1] at HS
  clear hw1 hs1 c0 c1 c2 c3 c4 hnp hnp2 hnp3
  have eg : ∀ args w, (callFunc 49 args).run Try.prog w = .ok (.enter 49 args) w := fun args w => by kernel_rfl
  generalize hB : w.heap.size = B at *
  have HB := Lib.hid hB
  generalize hb5 : B + 1 = b5 at *
  clear hB
  go_loopw [6] (fun x wr => ∃ i : Nat, i ≤ n ∧ 1 ≤ i ∧ x = .int .i64 i ∧ ∃ m, Hid (OT = oldF (L.drop i) m) ∧ Hid (MinW B w B b5 m wr)) (fun x _ => (n - intOf x).toNat)
  case atStart => exact ⟨1, hnp4, Nat.le_refl _, rfl, f0, Lib.hid HOT.out.symm, HS⟩
  case round =>
    clear HS
    obtain ⟨i, hi, hi1, rfl, m, HO, HM⟩ := hrel
    by_cases hlt : i < n
    · have hlt' : (i : Int) < n := by omega
      obtain ⟨f, hx⟩ : ∃ f, L[i]? = some f := ⟨_, List.getElem?_eq_getElem (by rw [HN.out]; exact hlt)⟩
      obtain ⟨g', o', eg', hat⟩ := L3.out i f hx
      cases eg'
      have hat2 := hat.below (by rw [HB.out]; exact HM.out.1)
      obtain ⟨y0, y1, y2, y3, y4⟩ := id hat2
      obtain ⟨x0, x1, x2, x3, x4⟩ := five_cells HM.out.2.2.2.2
      have HST := Lib.hid (oldF_step hx m)
      have HC : Hid (∀ W, Calls Try.prog 49 #[.agg #[.int .i64 f.num, .int .i64 f.lev, .int .i64 f.size, .string (stx f.first), .string (stx f.last)], .agg #[.int .i64 m.num, .int .i64 m.lev, .int .i64 m.size, .string (stx m.first), .string (stx m.last)]] W fun e w' => e = .returned (.int .i64 (Lib.compareInt f.num m.num)) ∧ Below W.heap.size W w') := Lib.hid fun W => lPick1_any f m W
      have z0 := fun x : Past wr => (x.h.cell (p := ⟨g, o + i * 5, none⟩) (cellLt y0)).trans y0
      have z1 := fun x : Past wr => (x.h.cell (p := ⟨g, o + i * 5 + 1, none⟩) (cellLt y1)).trans y1
      have z2 := fun x : Past wr => (x.h.cell (p := ⟨g, o + i * 5 + 2, none⟩) (cellLt y2)).trans y2
      have z3 := fun x : Past wr => (x.h.cell (p := ⟨g, o + i * 5 + 3, none⟩) (cellLt y3)).trans y3
      have z4 := fun x : Past wr => (x.h.cell (p := ⟨g, o + i * 5 + 4, none⟩) (cellLt y4)).trans y4
      have z5 := fun x : Past wr => (x.h.cell (p := ⟨b5, 0, none⟩) (cellLt x0)).trans x0
      have z6 := fun x : Past wr => (x.h.cell (p := ⟨b5, 1, none⟩) (cellLt x1)).trans x1
      have z7 := fun x : Past wr => (x.h.cell (p := ⟨b5, 2, none⟩) (cellLt x2)).trans x2
      have z8 := fun x : Past wr => (x.h.cell (p := ⟨b5, 3, none⟩) (cellLt x3)).trans x3
      have z9 := fun x : Past wr => (x.h.cell (p := ⟨b5, 4, none⟩) (cellLt x4)).trans x4
      have hcn : decide (Lib.compareInt f.num m.num < 0) = decide (f.num < m.num) := compareInt_neg _ _
      clear hat hx y0 y1 y2 y3 y4 x0 x1 x2 x3 x4
      generalize Lib.compareInt f.num m.num = CI at *
      go_upto_region 7 with fail
      refine wp_region_past (by kernel_rfl) (by kernel_rfl) ?_
      repeat (go_big_quiet_step (first | (go_at_fn 49; exact Past.call (HC.out _)) | (go_at_call 49; exact Past.call (HC.out _))))
      refine wpQuiet_nil ?_
      intro w2 hw2
      obtain ⟨⟨wn, hn⟩, rfl⟩ := hw2
      try dsimp only
      obtain ⟨m1, m2, m3, m4, m5⟩ := HM.out
      have hs1 : B ≤ wr.heap.size := by rw [← HB.out] at m1 ⊢; exact m1.size
      have B2 := Lib.hid (m1.trans (hn.mono hs1))
      have hs2 := Nat.le_trans hs1 hn.size
      have R4 := Lib.hid ((hn.block B (Array.getElem?_eq_some_iff.1 m4).1).trans m4)
      have R5 := Lib.hid ((hn.block b5 (Array.getElem?_eq_some_iff.1 m5).1).trans m5)
      have hne : B ≠ b5 := by omega
      have HAT := Lib.hid (hat2.below hn)
      clear hn z0 z1 z2 z3 z4 z5 z6 z7 z8 z9 m1 m4 m5 HM HC eg
      by_cases hc : f.num < m.num
      · have hc1 : decide (f.num < m.num) = true := decide_eq_true hc
        rw [if_pos hc] at HST
        obtain ⟨y0, y1, y2, y3, y4⟩ := HAT.out
        obtain ⟨x0, x1, x2, x3, x4⟩ := five_cells R5.out
        have f0 := Lib.frozen_of_heap R5.out 0
        have f1 := Lib.frozen_of_heap R5.out 1
        have f2 := Lib.frozen_of_heap R5.out 2
        have f3 := Lib.frozen_of_heap R5.out 3
        have f4 := Lib.frozen_of_heap R5.out 4
        have HW := Lib.hid (show MinW B w B b5 f (setFive w2 b5 f) from ⟨B2.out.grown (grown_five w2 b5 f) hs2 (fun k e => by cases e; omega), Nat.le_refl _, by omega, ((grown_five w2 b5 f).block B (Array.getElem?_eq_some_iff.1 R4.out).1 (fun e => hne (Option.some.inj e))).trans R4.out, heap_five R5.out f⟩)
        clear HAT R4 R5 B2 hcn
        go_wp2_with fail
        exact ⟨⟨i + 1, hlt, by omega, by go_num, f, Lib.hid (HO.out.trans HST.out), HW⟩, by simp [intOf]; omega⟩
      · have hc1 : decide (f.num < m.num) = false := decide_eq_false hc
        rw [if_neg hc] at HST
        have HW := Lib.hid (show MinW B w B b5 m w2 from ⟨B2.out, Nat.le_refl _, by omega, R4.out, R5.out⟩)
        clear HAT R4 R5 B2 hcn
        go_wp2_with fail
        exact ⟨⟨i + 1, hlt, by omega, by go_num, m, Lib.hid (HO.out.trans HST.out), HW⟩, by simp [intOf]; omega⟩
    · obtain rfl : i = n := by omega
      have HE : Hid (OT = m) := Lib.hid (by
        rw [HO.out, ← HN.out, List.drop_length]
        rfl)
      obtain ⟨m1, m2, m3, m4, m5⟩ := HM.out
      obtain ⟨x0, x1, x2, x3, x4⟩ := five_cells m5
      obtain ⟨y0, y1, y2, y3, y4⟩ := five_cells m4
      have f0 := Lib.frozen_of_heap m4 0
      have f1 := Lib.frozen_of_heap m4 1
      have f2 := Lib.frozen_of_heap m4 2
      have f3 := Lib.frozen_of_heap m4 3
      have f4 := Lib.frozen_of_heap m4 4
      have hs1 : B ≤ wr.heap.size := by rw [← HB.out] at m1 ⊢; exact m1.size
      have BE := Lib.hid (m1.grown (grown_five wr B m) hs1 (fun k e => by cases e; exact Nat.le_refl _))
      have R4 := Lib.hid (rowAt_of_heap (heap_five m4 m))
      clear m1 m4 m5 HM HO eg
      go_wp2_with fail
      refine bodyPost_ret (results_row rfl _ _ B _ _ rfl R4.out Try.underlying58 rfl (by kernel_rfl)) rfl ⟨?_, ?_⟩
      · rw [HE.out]
        rfl
      · rw [HB.out]
        exact BE.out
end Go.Proofs.Ytfklhkephdnhaaa
