/- Levels: tables that came in, and a copy of the first ones, cut. Conditions: none. -/
import Derived.Test.YtfklhkephdnhaaaLevel15
import Derived.Test.YtfklhkephdnhaaaEnts5
import Derived.Deep.Slices
namespace Go.Proofs.Ytfklhkephdnhaaa
open Go Go.RowKit Go.Maps

/-- Tables that came in. -/
def InFls (w : World) (v : Value) (es : List Fl) : Prop :=
  ∃ ao cap, v = .slice ao es.length cap ∧ es.length ≤ cap ∧ cap ≤ maxLen ∧ ∀ i x, es[i]? = some x → ∃ a : Addr, ao = some a ∧ w.cell? (a.add (i * 5)) = some (.int .i64 x.num) ∧ w.cell? (a.add (i * 5 + 1)) = some (.int .i64 x.lev) ∧ w.cell? (a.add (i * 5 + 2)) = some (.int .i64 x.size) ∧ w.cell? (a.add (i * 5 + 3)) = some (.string (stx x.first)) ∧ w.cell? (a.add (i * 5 + 4)) = some (.string (stx x.last))
theorem InFls.below {w w' : World} {v : Value} {es : List Fl} (h : InFls w v es) (k : Below w.heap.size w w') : InFls w' v es := by
  obtain ⟨ao, cap, h1, h2, h3, h4⟩ := h
  refine ⟨ao, cap, h1, h2, h3, fun i x hi => ?_⟩
  obtain ⟨a, h5, h6, h7, h8, h9, h10⟩ := h4 i x hi
  exact ⟨a, h5, (k.cell (p := a.add (i * 5)) (cellLt h6)).trans h6, (k.cell (p := a.add (i * 5 + 1)) (cellLt h7)).trans h7, (k.cell (p := a.add (i * 5 + 2)) (cellLt h8)).trans h8, (k.cell (p := a.add (i * 5 + 3)) (cellLt h9)).trans h9, (k.cell (p := a.add (i * 5 + 4)) (cellLt h10)).trans h10⟩
def cutF (x : Fl) : Fl := ⟨x.num, x.lev, x.size, x.first.take 110, x.last.take 110⟩
def fewF (n : Nat) (es : List Fl) : List Fl := (es.take n).map cutF
theorem fewF_length (n : Nat) (es : List Fl) : (fewF n es).length = min n es.length := by simp [fewF]
theorem fewF_succ (es : List Fl) (i : Nat) (x : Fl) (h : es[i]? = some x) : fewF (i + 1) es = fewF i es ++ [cutF x] := by
  unfold fewF
  rw [List.take_add_one, h]
  simp
theorem fewF_all (n : Nat) (es : List Fl) (h : es.length ≤ n) : fewF n es = fewF es.length es := by
  unfold fewF
  rw [List.take_of_length_le h, List.take_of_length_le (Nat.le_refl _)]
def FlNums (f : Fl) : Prop := in64 f.num ∧ in64 f.lev ∧ in64 f.size
theorem fewF_ok (n : Nat) (es : List Fl) (h : ∀ f ∈ es, FlNums f) : ∀ f ∈ fewF n es, FlOk f := by
  intro f hf
  obtain ⟨y, hy, rfl⟩ := List.mem_map.1 hf
  obtain ⟨h1, h2, h3⟩ := h y (List.mem_of_mem_take hy)
  exact ⟨h1, h2, h3, Nat.le_trans (List.length_take_le _ _) (by decide), Nat.le_trans (List.length_take_le _ _) (by decide)⟩
set_option maxRecDepth 100000 in
set_option maxHeartbeats 2000000 in
theorem l11files_any (v : Value) (es : List Fl) (n : Nat) (w : World) (h : InFls w v es) (hn : n ≤ 1000) :
    Calls Try.prog 9 #[v, .int .i64 n] w fun e w' => ∃ v', e = .returned v' ∧ OwnV w' w.heap.size v' (fewF n es) ∧ Below w.heap.size w w' := by
  obtain ⟨ao, cap, rfl, h1, h2, h3⟩ := h
  have H3 := Lib.hid h3
  obtain ⟨len, hlen⟩ : ∃ len, es.length = len := ⟨_, rfl⟩
  have HL := Lib.hid hlen
  rw [hlen] at h1 ⊢
  have b0 : Below w.heap.size w (w.alloc (.cells #[] 58)) := (Below.refl _ _).alloc (Nat.le_refl _) _
  have o0 := ownV_new w w.heap.size w.heap.size rfl (Nat.le_refl _)
  have hli : (len : Int) ≤ 9223372036854775807 := by unfold maxLen at h2; omega
  have hni : (n : Int) ≤ 1000 := by omega
  clear h3 hlen h1 h2
  go_enter Try.func9, Try.ntmps9
  go_wp2_with fail
  generalize w.alloc (.cells #[] 58) = W0 at *
  generalize hB : w.heap.size = B at *
  have HB := Lib.hid hB
  clear hB
  go_loopw [5, 6] (fun u x wr => ∃ i : Nat, i ≤ len ∧ i ≤ n ∧ x = .int .i64 i ∧ OwnV wr B u (fewF i es) ∧ Below B w wr) (fun _ x _ => (n - intOf x).toNat)
  case atStart => exact ⟨0, Nat.zero_le _, Nat.zero_le _, rfl, o0, b0⟩
  case round =>
    obtain ⟨i, hi1, hi2, rfl, ow, b1⟩ := hrel
    clear b0 o0
    have hBr : B ≤ wr.heap.size := by have := b1.size; rw [HB.out] at this; exact this
    by_cases hgo : i < len ∧ i < n
    · obtain ⟨gg1, gg2⟩ := hgo
      have g1' : decide (i < len) = true := decide_eq_true gg1
      have g2' : decide (i < n) = true := decide_eq_true gg2
      have g1n : (i : Int) < len := by omega
      have g2n : (i : Int) < n := by omega
      obtain ⟨x, hx⟩ : ∃ x, es[i]? = some x := ⟨_, List.getElem?_eq_getElem (by rw [HL.out]; exact gg1)⟩
      obtain ⟨a, rfl, k0, k1, k2, k3, k4⟩ := H3.out i x hx
      have c0 := (b1.cell (p := a.add (i * 5)) (by rw [← HB.out]; exact cellLt k0)).trans k0
      have c1 := (b1.cell (p := a.add (i * 5 + 1)) (by rw [← HB.out]; exact cellLt k1)).trans k1
      have c2 := (b1.cell (p := a.add (i * 5 + 2)) (by rw [← HB.out]; exact cellLt k2)).trans k2
      have c3 := (b1.cell (p := a.add (i * 5 + 3)) (by rw [← HB.out]; exact cellLt k3)).trans k3
      have c4 := (b1.cell (p := a.add (i * 5 + 4)) (by rw [← HB.out]; exact cellLt k4)).trans k4
      rw [← add_twoE, add_posE _ 1 (by decide)] at c1
      rw [← add_twoE, add_posE _ 2 (by decide)] at c2
      rw [← add_twoE, add_posE _ 3 (by decide)] at c3
      rw [← add_twoE, add_posE _ 4 (by decide)] at c4
      have HX : Hid (fewF (i + 1) es = fewF i es ++ [cutF x]) := Lib.hid (fewF_succ es i x hx)
      have hlen : (fewF i es).length ≤ 1000000 := by rw [fewF_length]; omega
      have HK : ∀ W, Hid (Calls Try.prog 30 #[.string (stx x.first), .int .i64 110] W fun e w' => e = .returned (.string (stx (x.first.take 110))) ∧ w' = W) := fun W => Lib.hid (l3Cut_any (stx x.first) 110 W (by decide))
      have HV : ∀ W, Hid (Calls Try.prog 30 #[.string (stx x.last), .int .i64 110] W fun e w' => e = .returned (.string (stx (x.last.take 110))) ∧ w' = W) := fun W => Lib.hid (l3Cut_any (stx x.last) 110 W (by decide))
      have OW := Lib.hid ow
      have B1 := Lib.hid b1
      have RX := Lib.hid (heap_alloc_new wr (.cells (flArr x) 58))
      clear k0 k1 k2 k3 k4 hx b1 ow
      go_upto_region 6 with fail
      have hne : u5.ownBlock ≠ some wr.heap.size := fun e => by
        have := (OW.out.block e).2.1
        omega
      have ow4 : OwnV (wr.alloc (.cells #[.int .i64 x.num, .int .i64 x.lev, .int .i64 x.size, .string (stx x.first), .string (stx x.last)] 58)) B u5 (fewF i es) := World.ownsRow.alloc OW.out _
      have b4 := B1.out.alloc hBr (.cells #[.int .i64 x.num, .int .i64 x.lev, .int .i64 x.size, .string (stx x.first), .string (stx x.last)] 58)
      have hs4 : B ≤ (wr.alloc (.cells #[.int .i64 x.num, .int .i64 x.lev, .int .i64 x.size, .string (stx x.first), .string (stx x.last)] 58)).heap.size := by simp; omega
      have r4 := RX.out
      unfold flArr at r4
      have hb7 : B ≤ wr.heap.size := hBr
      clear c0 c1 c2 c3 c4 OW B1 RX hBr
      generalize wr.alloc (.cells #[.int .i64 x.num, .int .i64 x.lev, .int .i64 x.size, .string (stx x.first), .string (stx x.last)] 58) = W4 at *
      generalize wr.heap.size = b7 at *
      have m0 : W4.cell? ⟨b7, 0, none⟩ = some (.int .i64 x.num) := (Lib.cell_of_heap r4 0).trans rfl
      have m1 : W4.cell? ⟨b7, 1, none⟩ = some (.int .i64 x.lev) := (Lib.cell_of_heap r4 1).trans rfl
      have m2 : W4.cell? ⟨b7, 2, none⟩ = some (.int .i64 x.size) := (Lib.cell_of_heap r4 2).trans rfl
      have m3 : W4.cell? ⟨b7, 3, none⟩ = some (.string (stx x.first)) := (Lib.cell_of_heap r4 3).trans rfl
      have m4 : W4.cell? ⟨b7, 4, none⟩ = some (.string (stx x.last)) := (Lib.cell_of_heap r4 4).trans rfl
      have f3 := Lib.frozen_of_heap r4 3
      have f4 := Lib.frozen_of_heap r4 4
      go_wp2_with fail
      refine (HK _).out.mono ?_
      rintro e w2 ⟨rfl, hw2⟩
      rw [hw2]
      clear hw2
      go_wp2_with fail
      refine (HV _).out.mono ?_
      rintro e w2 ⟨rfl, hw2⟩
      rw [hw2]
      clear hw2
      have G : W4.grownBy ((W4.setCell ⟨b7, 3, none⟩ (.string (stx (x.first.take 110)))).setCell ⟨b7, 4, none⟩ (.string (stx (x.last.take 110)))) (some b7) := (grown_setCell W4 b7 3 _).trans (grown_setCell _ b7 4 _)
      have r6 : ((W4.setCell ⟨b7, 3, none⟩ (.string (stx (x.first.take 110)))).setCell ⟨b7, 4, none⟩ (.string (stx (x.last.take 110)))).heap[b7]? = some (.cells (flArr (cutF x)) 58 (0, 0)) := by
        rw [heap_put (heap_put r4 _) _]
        rfl
      have ow6 := ow4.aside G hne
      have b6 := b4.grown G hs4 (fun k e => by cases e; exact hb7)
      have hs6 := Nat.le_trans hs4 G.size
      go_upto_region 8 with fail
      generalize (W4.setCell ⟨b7, 3, none⟩ (.string (stx (x.first.take 110)))).setCell ⟨b7, 4, none⟩ (.string (stx (x.last.take 110))) = W6 at *
      have fl6 := flAt_row r6 (x := cutF x) rfl
      obtain ⟨n0, n1, n2, n3, n4⟩ := five_cells r6
      clear m0 m1 m2 m3 m4 f3 f4 G r4 ow4 b4 hs4 r6 HK HV
      have hcell := flAt_new W6 (cutF x) 58 _ rfl
      have ow7 : OwnV (W6.alloc (.cells #[.int .i64 (cutF x).num, .int .i64 (cutF x).lev, .int .i64 (cutF x).size, .string (stx (cutF x).first), .string (stx (cutF x).last)] 58)) B u5 (fewF i es) := World.ownsRow.alloc ow6 _
      have b7' := b6.alloc hs6 (.cells #[.int .i64 (cutF x).num, .int .i64 (cutF x).lev, .int .i64 (cutF x).size, .string (stx (cutF x).first), .string (stx (cutF x).last)] 58)
      have hs7 : B ≤ (W6.alloc (.cells #[.int .i64 (cutF x).num, .int .i64 (cutF x).lev, .int .i64 (cutF x).size, .string (stx (cutF x).first), .string (stx (cutF x).last)] 58)).heap.size := by simp; omega
      generalize cutF x = y at *
      clear ow6 b6 hs6 fl6
      go_wp2_with (at_builtin; refine wpList_putV rfl _ _ rfl B _ _ rfl ow7 y W6.heap.size 1 rfl hcell hs7 hlen ?_)
      intro v8 w8 hown8 hgrow8 _
      have b8 := ow7.grown hgrow8 b7' hs7
      clear hgrow8 ow7 b7' hs7 hcell
      go_wp2_with fail
      exact ⟨⟨i + 1, gg1, gg2, by go_num, by rw [HX.out]; exact hown8, b8⟩, by simp [intOf]; omega⟩
    · have HF : Hid (fewF n es = fewF i es) := Lib.hid (by
        by_cases hg1 : i < len
        · rw [show i = n by omega]
        · rw [show i = es.length by rw [HL.out]; omega, fewF_all n es (by rw [HL.out]; omega)])
      by_cases hg1 : i < len
      · obtain rfl : i = n := by omega
        have g1' : decide (i < len) = true := decide_eq_true hg1
        have g1n : (i : Int) < len := by omega
        clear hgo
        go_wp2_with fail
        go_ret
        exact ⟨_, rfl, by rw [HB.out]; exact ow, by rw [HB.out]; exact b1⟩
      · obtain rfl : i = len := by omega
        clear hgo hg1
        go_wp2_with fail
        go_ret
        exact ⟨_, rfl, by rw [HF.out, HB.out]; exact ow, by rw [HB.out]; exact b1⟩
end Go.Proofs.Ytfklhkephdnhaaa
