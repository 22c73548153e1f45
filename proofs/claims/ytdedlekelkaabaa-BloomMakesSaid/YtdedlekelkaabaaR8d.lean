/- The document's filter: are two the same; may a key be there. Conditions: none. -/
import Derived.Test.YtdedlekelkaabaaR8c
namespace Go.Proofs.Ytdedlekelkaabaa
open Go Go.RowKit Go.Shelf
attribute [local go_sem] Oper.semAt_some

set_option maxRecDepth 100000 in
set_option maxHeartbeats 2000000 in
theorem r8Same_eq (p : Int) (v1 v2 : Value) (bl : List Bool) (w : World) (h1 : BitsIn w v1 bl) (h2 : BitsIn w v2 bl) (hl : bl.length ≤ 1000000) :
    Calls Try.prog 10 #[.agg #[.int .i64 p, v1], .agg #[.int .i64 p, v2]] w fun e w' => e = .returned (.bool true) ∧ Below w.heap.size w w' := by
  obtain ⟨ao, cap, rfl, hc1⟩ := h1
  obtain ⟨bo, cap2, rfl, hc2⟩ := h2
  have H1 := Lib.hid hc1
  have H2 := Lib.hid hc2
  clear hc1 hc2
  obtain ⟨n, hn⟩ : ∃ n, bl.length = n := ⟨_, rfl⟩
  rw [hn] at hl H1 H2 ⊢
  have hli : (n : Int) ≤ 1000000 := by omega
  clear hn
  have b0 : Below w.heap.size w ((w.alloc (.cells (#[.int .i64 p, .slice ao n cap]) 33)).alloc (.cells (#[.int .i64 p, .slice bo n cap2]) 33)) := ((Below.refl _ _).alloc (Nat.le_refl _) _).alloc (by simp only [World.size_alloc]; omega) _
  have r0 : rowAt ((w.alloc (.cells (#[.int .i64 p, .slice ao n cap]) 33)).alloc (.cells (#[.int .i64 p, .slice bo n cap2]) 33)) w.heap.size = some (#[.int .i64 p, .slice ao n cap]) := (rowAt_alloc_past _ _ _ (by simp only [World.size_alloc]; omega)).trans (rowAt_alloc_at _ _ _ _ rfl)
  have r1 : rowAt ((w.alloc (.cells (#[.int .i64 p, .slice ao n cap]) 33)).alloc (.cells (#[.int .i64 p, .slice bo n cap2]) 33)) (w.heap.size + 1) = some (#[.int .i64 p, .slice bo n cap2]) := rowAt_alloc_at _ _ _ _ (by simp only [World.size_alloc])
  go_enter Try.func10, Try.ntmps10
  go_wp2_with fail
  generalize (w.alloc (.cells (#[.int .i64 p, .slice ao n cap]) 33)).alloc (.cells (#[.int .i64 p, .slice bo n cap2]) 33) = W at *
  go_loopw [23] (fun x wr => ∃ i : Nat, i ≤ n ∧ x = .int .i64 i ∧ rowAt wr w.heap.size = some #[.int .i64 p, .slice ao n cap] ∧ rowAt wr (w.heap.size + 1) = some #[.int .i64 p, .slice bo n cap2] ∧ Below w.heap.size w wr) (fun x _ => (n - intOf x).toNat)
  case atStart => exact ⟨0, Nat.zero_le _, rfl, r0, r1, b0⟩
  case round =>
    obtain ⟨i, hi, rfl, s0, s1, b1⟩ := hrel
    clear r0 r1 b0
    by_cases hlt : i < n
    · have hlt' : (i : Int) < n := by omega
      obtain ⟨g, rfl, k1⟩ := H1.out i hlt
      obtain ⟨g2, rfl, k2⟩ := H2.out i hlt
      have k1' := (b1.cell (p := ⟨g, i, none⟩) (cellLt k1)).trans k1
      have k2' := (b1.cell (p := ⟨g2, i, none⟩) (cellLt k2)).trans k2
      have fa := fun y : Past wr => (cell_of_rowAt (y.row s0) 1).trans (rfl : _ = some (Value.slice (some ⟨g, 0, none⟩) n cap))
      have fb := fun y : Past wr => (cell_of_rowAt (y.row s1) 1).trans (rfl : _ = some (Value.slice (some ⟨g2, 0, none⟩) n cap2))
      have fc := fun y : Past wr => (y.h.cell (p := ⟨g, i, none⟩) (cellLt k1')).trans k1'
      have fd := fun y : Past wr => (y.h.cell (p := ⟨g2, i, none⟩) (cellLt k2')).trans k2'
      clear k1 k2 k1' k2'
      generalize bl.getD i false = b at *
      go_wp2_with fail
      refine wp_region_past (by kernel_rfl) (by kernel_rfl) ?_
      repeat (go_big_quiet_step (fail))
      refine wpQuiet_nil ?_
      intro w2 hw2
      obtain ⟨⟨wn, hn⟩, rfl⟩ := hw2
      try dsimp only
      have q0 := rowAt_past hn s0
      have q1 := rowAt_past hn s1
      have b2 := below_past b1 hn b1.size
      clear fa fb fc fd
      go_wp2_with fail
      exact ⟨⟨i + 1, hlt, by go_num, q0, q1, b2⟩, by simp [intOf]; omega⟩
    · obtain rfl : i = n := by omega
      go_wp2_with fail
      go_ret
      exact ⟨rfl, b1⟩

/-- May a key be there, by the document. -/
def mayR (p : Int) (bl : List Bool) (H : UInt64) : Bool := !goodR p bl.length || (List.range p.toNat).all fun i => bl.getD (plQ H bl.length i).toNat false
theorem mayR_bits (p : Int) (bs : List UInt8) (H : UInt64) : mayR p (bits8 bs) H = mayF p bs H := by
  have hg : goodR p (bits8 bs).length = goodB p bs.length := by
    rw [bits8_length]
    unfold goodR goodB
    exact decide_eq_decide.2 ⟨fun h => by omega, fun h => by omega⟩
  unfold mayR mayF
  rw [hg]
  cases h : goodB p bs.length with
  | false => rfl
  | true =>
    have hgd := of_decide_eq_true h
    rw [mayB, bits8_length]
    refine congrArg (!true || ·) (List.all_congr rfl fun i => ?_)
    exact bits8_get bs _ (plQ_lt H (8 * bs.length) i ⟨by omega, by omega⟩)
set_option maxRecDepth 100000 in
set_option maxHeartbeats 2000000 in
theorem r8May_any (p : Int) (v : Value) (bl : List Bool) (key : ByteArray) (w : World) (h : BitsIn w v bl) (hs : key.size ≤ 281474976710656) :
    Calls Try.prog 13 #[.agg #[.int .i64 p, v], .string key] w fun e w' => e = .returned (.bool (mayR p bl (hashL key.data.toList))) ∧ Below w.heap.size w w' := by
  obtain ⟨ao, cap, rfl, hc1⟩ := h
  have H1 := Lib.hid hc1
  clear hc1
  have HG : ∀ w, Hid (Calls Try.prog 15 #[.agg #[.int .i64 p, .slice ao bl.length cap]] w fun e w' => e = .returned (.bool (goodR p bl.length)) ∧ Below w.heap.size w w') := fun w => Lib.hid (r8Good_any p ao bl.length cap w)
  cases hg : goodR p bl.length with
  | false =>
    have hr : mayR p bl (hashL key.data.toList) = true := by unfold mayR; rw [hg]; rfl
    rw [hr]
    rw [hg] at HG
    have HL := Lib.hid hs
    clear hr hg hs
    have b0 : Below w.heap.size w (w.alloc (.cells #[.int .i64 p, .slice ao bl.length cap] 33)) := (Below.refl _ _).alloc (Nat.le_refl _) _
    have r0 : rowAt (w.alloc (.cells #[.int .i64 p, .slice ao bl.length cap] 33)) w.heap.size = some #[.int .i64 p, .slice ao bl.length cap] := rowAt_alloc_at _ _ _ _ rfl
    go_enter Try.func13, Try.ntmps13
    go_wp2_with fail
    generalize w.alloc (.cells #[.int .i64 p, .slice ao bl.length cap] 33) = W at *
    refine (HG _).out.mono ?_
    rintro e w1 ⟨rfl, b1⟩
    have b2 := below_past b0 b1 b0.size
    go_wp2_with fail
    go_ret
    exact ⟨rfl, b2⟩
  | true =>
    have hgd := of_decide_eq_true hg
    have hr : mayR p bl (hashL key.data.toList) = (List.range p.toNat).all fun i => bl.getD (plQ (hashL key.data.toList) bl.length i).toNat false := by unfold mayR; rw [hg]; rfl
    rw [hr]
    rw [hg] at HG
    obtain ⟨q, rfl⟩ : ∃ q : Nat, p = q := ⟨p.toNat, by omega⟩
    obtain ⟨n, hn⟩ : ∃ n, bl.length = n := ⟨_, rfl⟩
    rw [hn] at HG hgd H1 ⊢
    have hq : q ≤ 16 := by omega
    have hqi : (q : Int) ≤ 16 := by omega
    have hn0 : 0 < n := hgd.2.2.1
    have hn1 : n ≤ 65536 := hgd.2.2.2
    have hni : (n : Int) ≤ 65536 := by omega
    have HP : Hid (∀ (i : Nat) (w : World), i ≤ 16 → Calls Try.prog 25 #[.string key, .int .i64 i, .int .i64 n] w fun e w' => e = .returned (.int .i64 ((plQ (hashL key.data.toList) n i).toNat : Int)) ∧ Below w.heap.size w w') := Lib.hid fun i w hi => (r8Place_any key i n w hs (by omega) ⟨hn0, by omega⟩).mono fun e w' ⟨h1, h2⟩ => ⟨h1, by rw [h2]; exact Below.refl _ _⟩
    have HPL : Hid (∀ i, (plQ (hashL key.data.toList) n i).toNat < n) := Lib.hid fun i => plQ_lt _ n i ⟨hn0, by omega⟩
    have HS := Lib.hid hs
    generalize hashL key.data.toList = H at *
    clear hr hg hs hgd hn
    rw [show ((q : Int)).toNat = q from rfl]
    have b0 : Below w.heap.size w (w.alloc (.cells #[.int .i64 q, .slice ao n cap] 33)) := (Below.refl _ _).alloc (Nat.le_refl _) _
    have r0 : rowAt (w.alloc (.cells #[.int .i64 q, .slice ao n cap] 33)) w.heap.size = some #[.int .i64 q, .slice ao n cap] := rowAt_alloc_at _ _ _ _ rfl
    go_enter Try.func13, Try.ntmps13
    go_wp2_with fail
    generalize w.alloc (.cells #[.int .i64 q, .slice ao n cap] 33) = W at *
    refine (HG _).out.mono ?_
    rintro e w1 ⟨rfl, b1⟩
    have b2 := below_past b0 b1 b0.size
    have r1 := rowAt_past b1 r0
    clear b0 r0 b1 HG
    go_wp2_with fail
    go_loopw [5] (fun x wr => ∃ i : Nat, i ≤ q ∧ x = .int .i64 i ∧ Hid (∀ j, j < i → bl.getD (plQ H n j).toNat false = true) ∧ rowAt wr w.heap.size = some #[.int .i64 q, .slice ao n cap] ∧ Below w.heap.size w wr) (fun x _ => (q - intOf x).toNat)
    case atStart => exact ⟨0, Nat.zero_le _, rfl, Lib.hid fun j hj => absurd hj (Nat.not_lt_zero j), r1, b2⟩
    case round =>
      obtain ⟨i, hi, rfl, HA, r2, b3⟩ := hrel
      clear r1 b2
      have c0 := (cell_of_rowAt r2 0).trans (rfl : _ = some (Value.int .i64 q))
      by_cases hlt : i < q
      · have hlt' : (i : Int) < q := by omega
        have hpl := HPL.out i
        have HPI := Lib.hid fun w => HP.out i w (by omega)
        obtain ⟨P, hP⟩ : ∃ P, (plQ H n i).toNat = P := ⟨_, rfl⟩
        rw [hP] at hpl HPI
        have HPP := Lib.hid hP
        have hpli : (P : Int) < n := by omega
        obtain ⟨g, rfl, k1⟩ := H1.out P hpl
        have k1' := (b3.cell (p := ⟨g, P, none⟩) (cellLt k1)).trans k1
        have fa := fun y : Past wr => (cell_of_rowAt (y.row r2) 1).trans (rfl : _ = some (Value.slice (some ⟨g, 0, none⟩) n cap))
        have fc := fun y : Past wr => (y.h.cell (p := ⟨g, P, none⟩) (cellLt k1')).trans k1'
        obtain ⟨b, hb⟩ : ∃ b, bl.getD P false = b := ⟨_, rfl⟩
        rw [hb] at fc
        have HB := Lib.hid hb
        clear k1 k1' hP hb
        go_wp2_with fail
        refine wp_region_past (by kernel_rfl) (by kernel_rfl) ?_
        repeat (go_big_quiet_step ((go_at_call 25; exact Past.call (HPI.out _))))
        refine wpQuiet_nil ?_
        intro w2 hw2
        obtain ⟨⟨wn, hn⟩, rfl⟩ := hw2
        try dsimp only
        have q2 := rowAt_past hn r2
        have b4 := below_past b3 hn b3.size
        clear fa fc
        cases b with
        | false =>
          go_wp2_with fail
          go_ret
          refine ⟨?_, b4⟩
          have : ((List.range q).all fun i => bl.getD (plQ H n i).toNat false) = false := by
            rw [List.all_eq_false]
            exact ⟨i, List.mem_range.2 hlt, by rw [HPP.out, HB.out]; decide⟩
          rw [this]
          rfl
        | true =>
          go_wp2_with fail
          exact ⟨⟨i + 1, hlt, by go_num, Lib.hid (fun j hj => by
            by_cases e : j = i
            · rw [e, HPP.out, HB.out]
            · exact HA.out j (by omega)), q2, b4⟩, by simp [intOf]; omega⟩
      · obtain rfl : i = q := by omega
        go_wp2_with fail
        go_ret
        refine ⟨?_, b3⟩
        have : ((List.range i).all fun i => bl.getD (plQ H n i).toNat false) = true := by
          rw [List.all_eq_true]
          exact fun j hj => HA.out j (List.mem_range.1 hj)
        rw [this]
        rfl
end Go.Proofs.Ytdedlekelkaabaa
