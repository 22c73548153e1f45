/- The document's bytes of a tag, labels and texts. Conditions: none. -/
import Derived.Test.YtlldcgofjibdjaaDoorLabel3
import Derived.Test.YtlldcgofjibdjaaDoorAppNone
namespace Go.Proofs.YtlldcgofjibdjaaDoor
open Go Go.RowKit

def labL (L : List Lab) : List (List UInt8) := L.map Lab.l
theorem labL_succ (L : List Lab) (j : Nat) (h : j < L.length) : labL (L.take j) ++ [(L.getD j zeroLab).l] = labL (L.take (j + 1)) := by
  rw [List.take_succ_eq_append_getElem h, labL, labL, List.map_append]
  congr 2
  rw [List.getD_eq_getElem?_getD, List.getElem?_eq_getElem h]
  rfl
theorem labL_len (L : List Lab) : (labL L).length = L.length := by simp [labL]
theorem labL_short (L : List Lab) : ∀ t ∈ labL L, t.length ≤ 100 := by
  intro t ht
  obtain ⟨a, _, rfl⟩ := List.mem_map.1 ht
  rw [a.h]
  decide
theorem conv_lab_new (a : Lab) (w : World) : (convert 40 9 (.slice (some ⟨w.heap.size, 0, none⟩) 32 32)).run Tryd.prog (w.alloc (.cells (cellsL a) 23)) = .ok (.string (stx a.l)) (w.alloc (.cells (cellsL a) 23)) :=
  conv_lab a _ _ (rowAt_alloc_at w (cellsL a) 23 _ rfl)
theorem wpList_put_none {ops : Array Oper} {rest : List Oper} {o : Oper} {a : Act} {w : World} {Q : Exit → Act → World → Prop} (hgd : o.guard = none) (s x : Operand)
    (ho : o.op = .call { callee := .builtin .append, args := #[s, x], argTypes := #[34, 34] }) (B : Nat) (v : Value) (ts : List (List UInt8)) (hs : a.eval s = v) (hown : OwnStrs w B v ts) (cap : Nat) (hx : a.eval x = .slice none 0 cap)
    (h : wpList Tryd.prog ops Q rest (a.put o.dst v) w) : wpList Tryd.prog ops Q (o :: rest) a w := by
  obtain ⟨i0, hi, hz0, hz1, hz2⟩ := info_str
  have hrun := run_append_none_len (w := w) Tryd.underlying34 hi hown cap o.type
  refine wpList_plain hgd fun K hK => ?_
  unfold Oper.wp execOp
  simp only [ho, resolve, invoke, builtin, Sem.run_bind, Sem.run_pure, Result.andThen_ok, List.map_toArray, List.map_cons, List.map_nil, hs, hx, hrun]
  exact hK _ _ h
set_option maxRecDepth 100000 in
set_option maxHeartbeats 2000000 in
theorem r14Bytes_none (c : UInt8) (v u : Value) (L : List Lab) (S : List (List UInt8)) (w : World) (hv : LabsAt w v L) (hu : u = .slice none 0 0 ∧ S = []) (hL : L.length ≤ 4) (hS : S.length ≤ 4) (hlen : ∀ t ∈ S, t.length ≤ 100) :
    Calls Tryd.prog 14 #[.int .u8 (c.toNat : Int), v, u] w fun e w' => e = .returned (.string (stx (joinL c (labL L ++ S)))) ∧ Below w.heap.size w w' := by
  obtain ⟨ao, cap, rfl, hat⟩ := hv
  have HAT := Lib.hid hat
  have HU := Lib.hid hu
  have HR : Hid (∀ x w, StrsAt w x (labL L ++ S) → Calls Tryd.prog 32 #[.int .u8 (c.toNat : Int), x] w fun e w' => e = .returned (.string (stx (joinL c (labL L ++ S)))) ∧ Below w.heap.size w w') := Lib.hid fun x w h =>
    r3Bytes_any c x (labL L ++ S) w h (by rw [List.length_append, labL_len]; omega) (by
      intro t ht
      rcases List.mem_append.1 ht with h | h
      · exact labL_short L t h
      · exact hlen t h)
  have HS4 := Lib.hid hS
  have HLL := Lib.hid hL
  obtain ⟨R, hR⟩ : ∃ R, stx (joinL c (labL L ++ S)) = R := ⟨_, rfl⟩
  rw [hR] at HR ⊢
  obtain ⟨n, hn⟩ : ∃ n, L.length = n := ⟨_, rfl⟩
  have HN := Lib.hid hn
  rw [hn] at HAT HLL ⊢
  have hn4 : (n : Int) ≤ 4 := by omega
  have hc0 : (0 : Int) ≤ c.toNat := by omega
  have hc1 : (c.toNat : Int) < 256 := by have := c.toNat_lt; omega
  have b0 : Below w.heap.size w (w.alloc (.cells #[] 9)) := (Below.refl _ _).alloc (Nat.le_refl _) _
  have o1 : OwnStrs (w.alloc (.cells #[] 9)) w.heap.size (.slice (some ⟨w.heap.size, 0, none⟩) 0 0) (labL (L.take 0)) := ownStrs_new w _ _ rfl (Nat.le_refl _)
  clear hat hu hR hn hL hS hlen
  go_enter Tryd.func14, Tryd.ntmps14
  go_wp2_with fail
  generalize (w.alloc (.cells #[] 9)) = W0 at *
  generalize hB : w.heap.size = B at *
  have HB := Lib.hid hB
  clear hB
  go_loopw [7, 13] (fun x i wr => ∃ j : Nat, j ≤ n ∧ i = .int .i64 j ∧ OwnStrs wr B x (labL (L.take j)) ∧ Below B w wr) (fun _ i _ => (n - intOf i).toNat)
  case atStart => exact ⟨0, Nat.zero_le _, rfl, o1, b0⟩
  case round =>
    obtain ⟨j, hj, rfl, ow, b1⟩ := hrel
    clear o1 b0
    have hBr : B ≤ wr.heap.size := by rw [← HB.out]; exact b1.size
    by_cases hlt : j < n
    · have hlt' : (j : Int) < n := by omega
      obtain ⟨g, cur, rfl, h1, h2, h3⟩ := HAT.out j hlt
      have hr := rowAt_past (by rw [HB.out]; exact b1) h1
      obtain ⟨A, hA⟩ : ∃ A, L.getD j zeroLab = A := ⟨_, rfl⟩
      have HX := Lib.hid (labL_succ L j (by rw [HN.out]; exact hlt))
      rw [hA] at h3 HX
      have hlen2 : (labL (L.take j)).length ≤ 1000000 := by rw [labL_len, List.length_take]; have := HLL.out; have := HN.out; omega
      have HL2 := Lib.hid hlen2
      have HC := Lib.hid (conv_lab_new A wr)
      clear HAT h1 hA hlen2
      go_wp2_with fail
      rw [HC.out]
      simp only [Result.andThen]
      rw [Oper.upon_value]
      have bq : Below wr.heap.size wr (wr.alloc (.cells (cellsL A) 23)) := (Below.refl _ _).alloc (Nat.le_refl _) _
      have ow1 := ow.below bq
      have b2 := below_past b1 bq hBr
      clear h2 hr h3 HC ow b1 hBr
      have hB1 : B ≤ (wr.alloc (.cells (cellsL A) 23)).heap.size := by rw [← HB.out]; exact b2.size
      generalize wr.alloc (.cells (cellsL A) 23) = W1 at *
      clear bq
      have bq : Below W1.heap.size W1 (W1.alloc (.cells #[.string (stx A.l)] 9)) := (Below.refl _ _).alloc (Nat.le_refl _) _
      have ow2 := ow1.below bq
      have b3 := below_past b2 bq hB1
      have hcell := cell_of_rowAt (rowAt_alloc_at W1 #[.string (stx A.l)] 9 _ rfl) 0
      have hB3 := Nat.le_trans hB1 bq.size
      clear ow1 b2 bq hB1
      go_wp2_with (at_builtin; refine wpList_put_text rfl _ _ rfl B _ _ rfl ow2 A.l ⟨W1.heap.size, 0, none⟩ 1 rfl hcell hB3 HL2.out ?_)
      intro v' w' hown hgrow hat2
      have b4 := ow2.grown hgrow b3 hB3
      rw [HX.out] at hown
      clear ow2 hgrow hat2 b3 hcell hB3
      go_wp2_with fail
      exact ⟨⟨j + 1, hlt, by go_num, hown, b4⟩, by simp [intOf]; omega⟩
    · obtain rfl : j = n := by omega
      have q : decide (j < j) = false := decide_eq_false hlt
      clear HAT
      rw [List.take_of_length_le (by rw [HN.out]; exact Nat.le_refl _)] at ow
      obtain ⟨hu1, hu2⟩ := HU.out
      subst hu1 hu2
      go_wp2_with (at_builtin; refine wpList_put_none rfl _ _ rfl B _ _ rfl ow 0 rfl ?_)
      have ow6 : OwnStrs wr B u7 (labL L ++ []) := by rw [List.append_nil]; exact ow
      have b5 := b1
      clear b1 HU ow
      obtain ⟨w6, hw6⟩ : ∃ w6, w6 = wr := ⟨_, rfl⟩
      subst hw6
      have HR2 := Lib.hid (HR.out _ _ ow6.lie)
      have b6 : Below w.heap.size w w6 := by rw [HB.out]; exact b5
      clear ow6 b5 HR
      go_wp2_with fail
      refine HR2.out.mono ?_
      rintro e w7 ⟨rfl, b7⟩
      have b8 := below_past b6 b7 b6.size
      clear b6 b7 HR2
      go_wp2_with fail
      go_ret
      exact ⟨rfl, b8⟩
set_option maxRecDepth 100000 in
set_option maxHeartbeats 2000000 in
theorem r14Bytes_one (c : UInt8) (v u : Value) (L : List Lab) (S : List (List UInt8)) (w : World) (hv : LabsAt w v L) (hu : ∃ t g, u = .slice (some ⟨g, 0, none⟩) 1 1 ∧ S = [t] ∧ w.cell? ⟨g, 0, none⟩ = some (.string (stx t))) (hL : L.length ≤ 4) (hS : S.length ≤ 4) (hlen : ∀ t ∈ S, t.length ≤ 100) :
    Calls Tryd.prog 14 #[.int .u8 (c.toNat : Int), v, u] w fun e w' => e = .returned (.string (stx (joinL c (labL L ++ S)))) ∧ Below w.heap.size w w' := by
  obtain ⟨ao, cap, rfl, hat⟩ := hv
  have HAT := Lib.hid hat
  have HU := Lib.hid hu
  have HR : Hid (∀ x w, StrsAt w x (labL L ++ S) → Calls Tryd.prog 32 #[.int .u8 (c.toNat : Int), x] w fun e w' => e = .returned (.string (stx (joinL c (labL L ++ S)))) ∧ Below w.heap.size w w') := Lib.hid fun x w h =>
    r3Bytes_any c x (labL L ++ S) w h (by rw [List.length_append, labL_len]; omega) (by
      intro t ht
      rcases List.mem_append.1 ht with h | h
      · exact labL_short L t h
      · exact hlen t h)
  have HS4 := Lib.hid hS
  have HLL := Lib.hid hL
  obtain ⟨R, hR⟩ : ∃ R, stx (joinL c (labL L ++ S)) = R := ⟨_, rfl⟩
  rw [hR] at HR ⊢
  obtain ⟨n, hn⟩ : ∃ n, L.length = n := ⟨_, rfl⟩
  have HN := Lib.hid hn
  rw [hn] at HAT HLL ⊢
  have hn4 : (n : Int) ≤ 4 := by omega
  have hc0 : (0 : Int) ≤ c.toNat := by omega
  have hc1 : (c.toNat : Int) < 256 := by have := c.toNat_lt; omega
  have b0 : Below w.heap.size w (w.alloc (.cells #[] 9)) := (Below.refl _ _).alloc (Nat.le_refl _) _
  have o1 : OwnStrs (w.alloc (.cells #[] 9)) w.heap.size (.slice (some ⟨w.heap.size, 0, none⟩) 0 0) (labL (L.take 0)) := ownStrs_new w _ _ rfl (Nat.le_refl _)
  clear hat hu hR hn hL hS hlen
  go_enter Tryd.func14, Tryd.ntmps14
  go_wp2_with fail
  generalize (w.alloc (.cells #[] 9)) = W0 at *
  generalize hB : w.heap.size = B at *
  have HB := Lib.hid hB
  clear hB
  go_loopw [7, 13] (fun x i wr => ∃ j : Nat, j ≤ n ∧ i = .int .i64 j ∧ OwnStrs wr B x (labL (L.take j)) ∧ Below B w wr) (fun _ i _ => (n - intOf i).toNat)
  case atStart => exact ⟨0, Nat.zero_le _, rfl, o1, b0⟩
  case round =>
    obtain ⟨j, hj, rfl, ow, b1⟩ := hrel
    clear o1 b0
    have hBr : B ≤ wr.heap.size := by rw [← HB.out]; exact b1.size
    by_cases hlt : j < n
    · have hlt' : (j : Int) < n := by omega
      obtain ⟨g, cur, rfl, h1, h2, h3⟩ := HAT.out j hlt
      have hr := rowAt_past (by rw [HB.out]; exact b1) h1
      obtain ⟨A, hA⟩ : ∃ A, L.getD j zeroLab = A := ⟨_, rfl⟩
      have HX := Lib.hid (labL_succ L j (by rw [HN.out]; exact hlt))
      rw [hA] at h3 HX
      have hlen2 : (labL (L.take j)).length ≤ 1000000 := by rw [labL_len, List.length_take]; have := HLL.out; have := HN.out; omega
      have HL2 := Lib.hid hlen2
      have HC := Lib.hid (conv_lab_new A wr)
      clear HAT h1 hA hlen2
      go_wp2_with fail
      rw [HC.out]
      simp only [Result.andThen]
      rw [Oper.upon_value]
      have bq : Below wr.heap.size wr (wr.alloc (.cells (cellsL A) 23)) := (Below.refl _ _).alloc (Nat.le_refl _) _
      have ow1 := ow.below bq
      have b2 := below_past b1 bq hBr
      clear h2 hr h3 HC ow b1 hBr
      have hB1 : B ≤ (wr.alloc (.cells (cellsL A) 23)).heap.size := by rw [← HB.out]; exact b2.size
      generalize wr.alloc (.cells (cellsL A) 23) = W1 at *
      clear bq
      have bq : Below W1.heap.size W1 (W1.alloc (.cells #[.string (stx A.l)] 9)) := (Below.refl _ _).alloc (Nat.le_refl _) _
      have ow2 := ow1.below bq
      have b3 := below_past b2 bq hB1
      have hcell := cell_of_rowAt (rowAt_alloc_at W1 #[.string (stx A.l)] 9 _ rfl) 0
      have hB3 := Nat.le_trans hB1 bq.size
      clear ow1 b2 bq hB1
      go_wp2_with (at_builtin; refine wpList_put_text rfl _ _ rfl B _ _ rfl ow2 A.l ⟨W1.heap.size, 0, none⟩ 1 rfl hcell hB3 HL2.out ?_)
      intro v' w' hown hgrow hat2
      have b4 := ow2.grown hgrow b3 hB3
      rw [HX.out] at hown
      clear ow2 hgrow hat2 b3 hcell hB3
      go_wp2_with fail
      exact ⟨⟨j + 1, hlt, by go_num, hown, b4⟩, by simp [intOf]; omega⟩
    · obtain rfl : j = n := by omega
      have q : decide (j < j) = false := decide_eq_false hlt
      clear HAT
      rw [List.take_of_length_le (by rw [HN.out]; exact Nat.le_refl _)] at ow
      obtain ⟨t, g, hu1, hu2, hc⟩ := HU.out
      subst hu1 hu2
      have hc2 := ((by rw [HB.out]; exact b1 : Below w.heap.size w wr).cell (p := ⟨g, 0, none⟩) (cellLt hc)).trans hc
      have hlen2 : (labL L).length ≤ 1000000 := by rw [labL_len]; have := HLL.out; have := HN.out; omega
      clear HU
      go_wp2_with (at_builtin; refine wpList_put_text rfl _ _ rfl B _ _ rfl ow t ⟨g, 0, none⟩ 1 rfl hc2 hBr hlen2 ?_)
      intro v6 w6 ow6 hgrow hat2
      have b5 := ow.grown hgrow b1 hBr
      clear ow hgrow hat2 b1 hc2 hlen2 hBr
      have HR2 := Lib.hid (HR.out _ _ ow6.lie)
      have b6 : Below w.heap.size w w6 := by rw [HB.out]; exact b5
      clear ow6 b5 HR
      go_wp2_with fail
      refine HR2.out.mono ?_
      rintro e w7 ⟨rfl, b7⟩
      have b8 := below_past b6 b7 b6.size
      clear b6 b7 HR2
      go_wp2_with fail
      go_ret
      exact ⟨rfl, b8⟩
theorem labs_at1 {w : World} {g : Nat} {a : Lab} (h : rowAt w g = some (cellsL a)) : LabsAt w (.slice (some ⟨g, 0, none⟩) 1 1) [a] := by
  refine ⟨_, _, rfl, fun i hi => ⟨g, cellsL a, rfl, h, ?_⟩⟩
  obtain rfl : i = 0 := by simpa using hi
  refine ⟨by simp, ?_⟩
  rw [show (List.getD [a] 0 zeroLab) = a from rfl]
  apply Array.ext
  · simp
  · intro j h1 h2
    simp
theorem labs_at0 (w : World) : LabsAt w (.slice none 0 0) [] := ⟨none, 0, rfl, fun i hi => absurd hi (Nat.not_lt_zero i)⟩
end Go.Proofs.YtlldcgofjibdjaaDoor
