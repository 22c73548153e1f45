/- Texts that the next ones stand on: OwnF, ShaRef2, ShaRef3, ShaLaw, ShaMac, ShaRef4, ShaRef5, Ref16a. -/
import Derived.Test.YtmabigcolabbmaaGreatDoorPa11
import Derived.ArgAppend
import Derived.Maps.AppendAt
namespace Go.Proofs.YtmabigcolabbmaaGreatDoor
open Go Go.RowKit

/-- A mark that no cell of the row bears. -/
def Harmless (fr : Nat × Nat) (n : Nat) : Prop := fr = (0, 0) ∨ n ≤ fr.1
/-- A list of one-cell elements of the call's own. -/
def OwnV (w : World) (B : Nat) (e : TypeId) (v : Value) (xs : List Value) : Prop :=
  (v = .slice none 0 0 ∧ xs = []) ∨ ∃ g cap cur fr, v = .slice (some ⟨g, 0, none⟩) xs.length cap ∧ B ≤ g ∧ w.heap[g]? = some (.cells cur e fr) ∧ Harmless fr cur.size ∧ xs.length ≤ cap ∧ cap ≤ maxLen ∧ cur.size = cap ∧ cur.toList.take xs.length = xs
theorem OwnV.of_own {w : World} {B : Nat} {e : TypeId} {v : Value} {n : Nat} {xs : List Value} (h : w.ownsRow B e 1 v n xs) : OwnV w B e v xs := by
  have hl : xs.length = n := by have := h.1; omega
  rcases h.2 with ⟨h1, h2⟩ | ⟨g, cap, cur, h1, h2, h3, h4, h5, h6, h7⟩
  · exact .inl ⟨h1, List.eq_nil_of_length_eq_zero (by omega)⟩
  · exact .inr ⟨g, cap, cur, (0, 0), by rw [h1, hl], h2, h3, .inl rfl, by omega, h5, by omega, by rw [hl]; simpa using h7⟩
theorem OwnV.lt {w : World} {B : Nat} {e : TypeId} {v : Value} {xs : List Value} (h : OwnV w B e v xs) : ∀ k, v.ownBlock = some k → B ≤ k ∧ k < w.heap.size := by
  intro k hk
  rcases h with ⟨rfl, _⟩ | ⟨g, cap, cur, fr, rfl, h2, h3, _⟩
  · simp [Value.ownBlock] at hk
  · simp only [Value.ownBlock, Option.some.injEq] at hk
    subst hk
    exact ⟨h2, (Array.getElem?_eq_some_iff.1 h3).1⟩
theorem OwnV.kept {w w' : World} {B : Nat} {e : TypeId} {v : Value} {xs : List Value} (h : OwnV w B e v xs) (hb : ∀ g, v.ownBlock = some g → w'.heap[g]? = w.heap[g]?) : OwnV w' B e v xs := by
  rcases h with h | ⟨g, cap, cur, fr, h1, h2, h3, h4⟩
  · exact .inl h
  · exact .inr ⟨g, cap, cur, fr, h1, h2, by rw [hb g (by rw [h1]; rfl), h3], h4⟩
theorem OwnV.below {w w' : World} {B : Nat} {e : TypeId} {v : Value} {xs : List Value} (h : OwnV w B e v xs) (k : Below w.heap.size w w') : OwnV w' B e v xs :=
  h.kept fun g hg => k.block g (h.lt g hg).2
theorem OwnV.cell {w : World} {B : Nat} {e : TypeId} {v : Value} {xs : List Value} (h : OwnV w B e v xs) {i : Nat} (hi : i < xs.length) : ∃ g cap, v = .slice (some ⟨g, 0, none⟩) xs.length cap ∧ xs.length ≤ cap ∧ cap ≤ maxLen ∧ ∀ j, j < xs.length → w.cell? ⟨g, j, none⟩ = xs[j]? := by
  rcases h with ⟨_, rfl⟩ | ⟨g, cap, cur, fr, h1, h2, h3, h4, h5, h6, h7, h8⟩
  · simp at hi
  · refine ⟨g, cap, h1, h5, h6, fun j hj => ?_⟩
    rw [cell_of_row w g j cur e fr h3, ← h8, List.getElem?_take, if_pos (by omega)]
    simp
theorem OwnV.shape {w : World} {B : Nat} {e : TypeId} {v : Value} {xs : List Value} (h : OwnV w B e v xs) : ∃ ao cap, v = .slice ao xs.length cap := by
  rcases h with ⟨h1, h2⟩ | ⟨g, cap, cur, fr, h1, _⟩
  · exact ⟨none, 0, by rw [h1, h2]; rfl⟩
  · exact ⟨_, _, h1⟩
theorem frozen_harmless {w : World} {g i : Nat} {cur : Array Value} {e : TypeId} {fr : Nat × Nat} (h : w.heap[g]? = some (.cells cur e fr)) (hf : Harmless fr cur.size) (hi : i < cur.size) : w.frozen? ⟨g, i, none⟩ = false := by
  unfold World.frozen?
  simp only [h]
  rcases hf with rfl | hf
  · simp
  · simp only [Bool.and_eq_false_iff, decide_eq_false_iff_not]
    left
    omega
theorem heap_set_mark {w : World} {g i : Nat} {cur : Array Value} {e : TypeId} {fr : Nat × Nat} (h : w.heap[g]? = some (.cells cur e fr)) (x : Value) : (w.setCell ⟨g, i, none⟩ x).heap[g]? = some (.cells (cur.setIfInBounds i x) e fr) := by
  simp [World.setCell, Array.getElem?_modify, h]
section
variable {P : Program}
/-- One element more. -/
theorem run_put_one (w : World) (t ty e : TypeId) (i : TypeInfo) (z : Value) (bytes : Nat) (ht : P.underlying t = some (.slice e)) (hi : P.info? e = some i) (hz : i.zero = some z) (hs1 : i.size = 1) (hby : i.bytes = bytes) (hzs : z.cells.size = 1)
    (B : Nat) (v : Value) (xs : List Value) (hown : OwnV w B e v xs) (x : Value) (ad : Addr) (c : Nat) (hcell : w.cell? ad = some x) (h1 : x.oneCell' = true) (hB : B ≤ w.heap.size) (hl : xs.length + 1 ≤ maxLen) (hlb : (xs.length + 1) * bytes ≤ 140737488355328) :
    ∃ v' w', (Builtin.append_ #[t, t] ty #[v, .slice (some ad) 1 c]).run P w = .ok v' w' ∧ OwnV w' B e v' (xs ++ [x]) ∧ w.grownBy w' v.ownBlock ∧ (v'.ownBlock = v.ownBlock ∨ ∀ g, v'.ownBlock = some g → w.heap.size ≤ g) := by
  have hnews : ∀ j u, [x][j]? = some u → w.cell? (ad.add j) = some u := by
    intro j u hu
    have hj : j = 0 := by
      have := (List.getElem?_eq_some_iff.1 hu).1
      simpa using this
    subst hj
    have hu2 : x = u := by simpa using hu
    rw [← hu2, show ad.add 0 = ad by simp [Addr.add]]
    exact hcell
  have h1' : ∀ u ∈ [x], u.oneCell' = true := by
    intro u hu
    have : u = x := by simpa using hu
    rw [this]
    exact h1
  rcases hown with ⟨rfl, rfl⟩ | ⟨g, cap, cur, fr, rfl, h2, h3, h4, h5, h6, h7, h8⟩
  · obtain ⟨v', w', hr, ho, hg, _, hat⟩ := run_append_own_at (P := P) w B t ty e i z 1 bytes ht hi hz hs1 hby hzs (by decide) (.slice none 0 0) 0 [] (World.ownsRow_nil _ _ _ _) ad 1 c [x] rfl hnews h1' (by simpa using hl) (by simpa using hlb) hB
    refine ⟨v', w', hr, OwnV.of_own ho, hg, hat.imp id fun e g hg => ?_⟩
    rw [e] at hg
    simp only [Option.some.injEq] at hg
    omega
  · by_cases hroom : xs.length + 1 ≤ cap
    · have hr := run_append_room_cells (P := P) w t ty e i ht hi g 0 xs.length cap ad 1 c [x] (by rw [hs1]; rfl) hnews h1' hroom
        (fun j hj => by
          have hj0 : j = 0 := by simpa using hj
          subst hj0
          rw [hs1, Nat.zero_add, Nat.mul_one, Nat.add_zero, cell_of_row w g _ cur e fr h3, Array.getElem?_eq_getElem (by omega)]
          rfl)
        (fun j hj => by
          have hj0 : j = 0 := by simpa using hj
          subst hj0
          rw [hs1, Nat.zero_add, Nat.mul_one, Nat.add_zero]
          exact frozen_harmless h3 h4 (by omega))
      rw [hs1, Nat.zero_add, Nat.mul_one] at hr
      have e1 : w.setCells g xs.length [x] = w.setCell ⟨g, xs.length, none⟩ x := rfl
      rw [e1] at hr
      refine ⟨_, _, hr, .inr ⟨g, cap, cur.setIfInBounds xs.length x, fr, by rw [List.length_append, List.length_singleton], h2, heap_set_mark h3 x, by simpa using h4, by rw [List.length_append]; simpa using hroom, h6, by simpa using h7, ?_⟩, ⟨rfl, rfl, rfl, by simp, fun k _ hk => Below.heap_setCell _ _ _ _ (fun e => hk (by rw [e]; rfl))⟩, .inl rfl⟩
      rw [List.length_append, List.length_singleton, Array.toList_setIfInBounds, List.take_add_one, List.take_set_of_le (Nat.le_refl _), h8]
      simp [show xs.length < cur.size by omega]
    · have hold : ∀ j u, xs[j]? = some u → w.cell? ((⟨g, 0, none⟩ : Addr).add j) = some u := by
        intro j u hu
        have hj := (List.getElem?_eq_some_iff.1 hu).1
        rw [show (⟨g, 0, none⟩ : Addr).add j = ⟨g, j, none⟩ by simp [Addr.add]; exact fun e => e.symm, cell_of_row w g j cur e fr h3, ← hu, ← h8, List.getElem?_take, if_pos (by omega)]
        simp
      obtain ⟨v', w', hr, ho, hg⟩ := run_append_arg_grows (P := P) w t ty e i z 1 bytes ht hi hz hs1 hby hzs (by decide) ⟨g, 0, none⟩ xs.length cap xs (by omega) hold ad 1 c [x] rfl hnews (by omega) hl hlb
      refine ⟨v', w', hr, ?_, ⟨hg.os, hg.tape, hg.output, hg.size, fun k hk _ => hg.block k hk (by simp)⟩, ?_⟩
      · rcases OwnV.of_own ho with hq | ⟨g2, cap2, cur2, fr2, q1, q2, q3⟩
        · exact .inl hq
        · exact .inr ⟨g2, cap2, cur2, fr2, q1, Nat.le_trans hB q2, q3⟩
      · exact .inr fun g hg => (ho.lt g hg).1
theorem wpList_put_one {w : World} {ops : Array Oper} {rest : List Oper} {o : Oper} {a : Act} {Q : Exit → Act → World → Prop} (hgd : o.guard = none) (s q : Operand) (t : TypeId)
    (ho : o.op = .call { callee := .builtin .append, args := #[s, q], argTypes := #[t, t] }) (e : TypeId) (i : TypeInfo) (z : Value) (bytes : Nat) (ht : P.underlying t = some (.slice e)) (hi : P.info? e = some i) (hz : i.zero = some z) (hs1 : i.size = 1) (hby : i.bytes = bytes) (hzs : z.cells.size = 1)
    (B : Nat) (v : Value) (xs : List Value) (hs : a.eval s = v) (hown : OwnV w B e v xs) (x : Value) (ad : Addr) (c : Nat) (hx : a.eval q = .slice (some ad) 1 c) (hcell : w.cell? ad = some x) (h1 : x.oneCell' = true) (hB : B ≤ w.heap.size) (hl : xs.length + 1 ≤ maxLen) (hlb : (xs.length + 1) * bytes ≤ 140737488355328)
    (h : ∀ v' w', OwnV w' B e v' (xs ++ [x]) → w.grownBy w' v.ownBlock → (v'.ownBlock = v.ownBlock ∨ ∀ g, v'.ownBlock = some g → w.heap.size ≤ g) → wpList P ops Q rest (a.put o.dst v') w') : wpList P ops Q (o :: rest) a w := by
  refine wpList_plain hgd fun K hK => ?_
  obtain ⟨v', w', hr, h2, h3, h4⟩ := run_put_one (P := P) w t o.type e i z bytes ht hi hz hs1 hby hzs B v xs hown x ad c hcell h1 hB hl hlb
  unfold Oper.wp execOp
  simp only [ho, resolve, invoke, builtin, Sem.run_bind, Sem.run_pure, Result.andThen_ok, List.map_toArray, List.map_cons, List.map_nil, hs, hx, hr]
  exact hK _ _ (h v' w' h2 h3 h4)
end
/-- What []byte(s) makes. -/
theorem ownV_bytes (w : World) (s : ByteArray) (cap B : Nat) (hB : B ≤ w.heap.size) (hc : s.size ≤ cap) (hm : cap ≤ maxLen) : OwnV (w.drew.alloc (.cells (bytesRow s cap) 5 ((bytesRow s cap).size, (bytesRow s cap).size + 1))) B 5 (.slice (some ⟨w.heap.size, 0, none⟩) s.size cap) (s.data.toList.map Extern.Stop.cell) := by
  have hl : (s.data.toList.map Extern.Stop.cell).length = s.size := by rw [List.length_map]; rfl
  have hz : (bytesRow s cap).size = cap := by
    unfold bytesRow
    rw [Array.size_append, Array.size_map, Array.size_replicate]
    show s.size + _ = _
    omega
  refine .inr ⟨w.heap.size, cap, bytesRow s cap, _, by rw [hl], hB, heap_alloc_new w.drew _, .inr (Nat.le_refl _), by omega, hm, hz, ?_⟩
  rw [hl]
  unfold bytesRow
  rw [Array.toList_append, List.take_append_of_le_length (by rw [Array.toList_map, List.length_map]; exact Nat.le_refl _), List.take_of_length_le (by rw [Array.toList_map, List.length_map]; exact Nat.le_refl _)]
  simp only [Array.toList_map]
  rfl
end Go.Proofs.YtmabigcolabbmaaGreatDoor
namespace Go.Proofs.YtmabigcolabbmaaGreatDoor
open Go Go.RowKit

theorem or_comm32 (a b : UInt32) : bits .or .u32 (wv a) (wv b) = bits .or .u32 (wv b) (wv a) := by
  rw [w_or, w_or, UInt32.or_comm]
theorem w_right (x : UInt32) (n : Nat) (h0 : 0 < n) (h : n < 32) : bits .or .u32 (wv x / (2 ^ n : Nat)) (wv x * (2 ^ (32 - n) : Nat) % 4294967296) = wv (rotr x n) := by
  rw [w_shl x (32 - n) (by omega), w_shr x n h, or_comm32, w_or]
  rfl
set_option maxRecDepth 100000 in
theorem right_2 (x : UInt32) (w : World) : Calls Tryz.prog 63 #[.int .u32 (wv x), .int .i64 2] w fun e w' => e = .returned (.int .u32 (wv (rotr x 2))) ∧ Below w.heap.size w w' := by
  have h0 := w_ge x
  have h1 := w_lt x
  have HW := Lib.hid (w_right x 2 (by decide) (by decide))
  rw [show ((2 ^ (32 - 2) : Nat) : Int) = 1073741824 from rfl, show ((2 ^ 2 : Nat) : Int) = 4 from rfl] at HW
  generalize wv (rotr x 2) = v at *
  generalize wv x = z at *
  go_enter Tryz.func63, Tryz.ntmps63
  go_wp2_with fail
  refine wp_region_past (by kernel_rfl) (by kernel_rfl) ?_
  repeat (go_big_quiet_step (fail))
  refine wpQuiet_nil ?_
  intro w2 hw2
  obtain ⟨⟨wn, hn⟩, rfl⟩ := hw2
  try dsimp only
  go_wp2_with fail
  go_ret
  exact ⟨congrArg (fun q => Ending.returned (Value.int .u32 q)) HW.out, hn⟩
set_option maxRecDepth 100000 in
theorem right_6 (x : UInt32) (w : World) : Calls Tryz.prog 63 #[.int .u32 (wv x), .int .i64 6] w fun e w' => e = .returned (.int .u32 (wv (rotr x 6))) ∧ Below w.heap.size w w' := by
  have h0 := w_ge x
  have h1 := w_lt x
  have HW := Lib.hid (w_right x 6 (by decide) (by decide))
  rw [show ((2 ^ (32 - 6) : Nat) : Int) = 67108864 from rfl, show ((2 ^ 6 : Nat) : Int) = 64 from rfl] at HW
  generalize wv (rotr x 6) = v at *
  generalize wv x = z at *
  go_enter Tryz.func63, Tryz.ntmps63
  go_wp2_with fail
  refine wp_region_past (by kernel_rfl) (by kernel_rfl) ?_
  repeat (go_big_quiet_step (fail))
  refine wpQuiet_nil ?_
  intro w2 hw2
  obtain ⟨⟨wn, hn⟩, rfl⟩ := hw2
  try dsimp only
  go_wp2_with fail
  go_ret
  exact ⟨congrArg (fun q => Ending.returned (Value.int .u32 q)) HW.out, hn⟩
set_option maxRecDepth 100000 in
theorem right_7 (x : UInt32) (w : World) : Calls Tryz.prog 63 #[.int .u32 (wv x), .int .i64 7] w fun e w' => e = .returned (.int .u32 (wv (rotr x 7))) ∧ Below w.heap.size w w' := by
  have h0 := w_ge x
  have h1 := w_lt x
  have HW := Lib.hid (w_right x 7 (by decide) (by decide))
  rw [show ((2 ^ (32 - 7) : Nat) : Int) = 33554432 from rfl, show ((2 ^ 7 : Nat) : Int) = 128 from rfl] at HW
  generalize wv (rotr x 7) = v at *
  generalize wv x = z at *
  go_enter Tryz.func63, Tryz.ntmps63
  go_wp2_with fail
  refine wp_region_past (by kernel_rfl) (by kernel_rfl) ?_
  repeat (go_big_quiet_step (fail))
  refine wpQuiet_nil ?_
  intro w2 hw2
  obtain ⟨⟨wn, hn⟩, rfl⟩ := hw2
  try dsimp only
  go_wp2_with fail
  go_ret
  exact ⟨congrArg (fun q => Ending.returned (Value.int .u32 q)) HW.out, hn⟩
set_option maxRecDepth 100000 in
theorem right_11 (x : UInt32) (w : World) : Calls Tryz.prog 63 #[.int .u32 (wv x), .int .i64 11] w fun e w' => e = .returned (.int .u32 (wv (rotr x 11))) ∧ Below w.heap.size w w' := by
  have h0 := w_ge x
  have h1 := w_lt x
  have HW := Lib.hid (w_right x 11 (by decide) (by decide))
  rw [show ((2 ^ (32 - 11) : Nat) : Int) = 2097152 from rfl, show ((2 ^ 11 : Nat) : Int) = 2048 from rfl] at HW
  generalize wv (rotr x 11) = v at *
  generalize wv x = z at *
  go_enter Tryz.func63, Tryz.ntmps63
  go_wp2_with fail
  refine wp_region_past (by kernel_rfl) (by kernel_rfl) ?_
  repeat (go_big_quiet_step (fail))
  refine wpQuiet_nil ?_
  intro w2 hw2
  obtain ⟨⟨wn, hn⟩, rfl⟩ := hw2
  try dsimp only
  go_wp2_with fail
  go_ret
  exact ⟨congrArg (fun q => Ending.returned (Value.int .u32 q)) HW.out, hn⟩
set_option maxRecDepth 100000 in
theorem right_13 (x : UInt32) (w : World) : Calls Tryz.prog 63 #[.int .u32 (wv x), .int .i64 13] w fun e w' => e = .returned (.int .u32 (wv (rotr x 13))) ∧ Below w.heap.size w w' := by
  have h0 := w_ge x
  have h1 := w_lt x
  have HW := Lib.hid (w_right x 13 (by decide) (by decide))
  rw [show ((2 ^ (32 - 13) : Nat) : Int) = 524288 from rfl, show ((2 ^ 13 : Nat) : Int) = 8192 from rfl] at HW
  generalize wv (rotr x 13) = v at *
  generalize wv x = z at *
  go_enter Tryz.func63, Tryz.ntmps63
  go_wp2_with fail
  refine wp_region_past (by kernel_rfl) (by kernel_rfl) ?_
  repeat (go_big_quiet_step (fail))
  refine wpQuiet_nil ?_
  intro w2 hw2
  obtain ⟨⟨wn, hn⟩, rfl⟩ := hw2
  try dsimp only
  go_wp2_with fail
  go_ret
  exact ⟨congrArg (fun q => Ending.returned (Value.int .u32 q)) HW.out, hn⟩
set_option maxRecDepth 100000 in
theorem right_17 (x : UInt32) (w : World) : Calls Tryz.prog 63 #[.int .u32 (wv x), .int .i64 17] w fun e w' => e = .returned (.int .u32 (wv (rotr x 17))) ∧ Below w.heap.size w w' := by
  have h0 := w_ge x
  have h1 := w_lt x
  have HW := Lib.hid (w_right x 17 (by decide) (by decide))
  rw [show ((2 ^ (32 - 17) : Nat) : Int) = 32768 from rfl, show ((2 ^ 17 : Nat) : Int) = 131072 from rfl] at HW
  generalize wv (rotr x 17) = v at *
  generalize wv x = z at *
  go_enter Tryz.func63, Tryz.ntmps63
  go_wp2_with fail
  refine wp_region_past (by kernel_rfl) (by kernel_rfl) ?_
  repeat (go_big_quiet_step (fail))
  refine wpQuiet_nil ?_
  intro w2 hw2
  obtain ⟨⟨wn, hn⟩, rfl⟩ := hw2
  try dsimp only
  go_wp2_with fail
  go_ret
  exact ⟨congrArg (fun q => Ending.returned (Value.int .u32 q)) HW.out, hn⟩
set_option maxRecDepth 100000 in
theorem right_18 (x : UInt32) (w : World) : Calls Tryz.prog 63 #[.int .u32 (wv x), .int .i64 18] w fun e w' => e = .returned (.int .u32 (wv (rotr x 18))) ∧ Below w.heap.size w w' := by
  have h0 := w_ge x
  have h1 := w_lt x
  have HW := Lib.hid (w_right x 18 (by decide) (by decide))
  rw [show ((2 ^ (32 - 18) : Nat) : Int) = 16384 from rfl, show ((2 ^ 18 : Nat) : Int) = 262144 from rfl] at HW
  generalize wv (rotr x 18) = v at *
  generalize wv x = z at *
  go_enter Tryz.func63, Tryz.ntmps63
  go_wp2_with fail
  refine wp_region_past (by kernel_rfl) (by kernel_rfl) ?_
  repeat (go_big_quiet_step (fail))
  refine wpQuiet_nil ?_
  intro w2 hw2
  obtain ⟨⟨wn, hn⟩, rfl⟩ := hw2
  try dsimp only
  go_wp2_with fail
  go_ret
  exact ⟨congrArg (fun q => Ending.returned (Value.int .u32 q)) HW.out, hn⟩
set_option maxRecDepth 100000 in
theorem right_19 (x : UInt32) (w : World) : Calls Tryz.prog 63 #[.int .u32 (wv x), .int .i64 19] w fun e w' => e = .returned (.int .u32 (wv (rotr x 19))) ∧ Below w.heap.size w w' := by
  have h0 := w_ge x
  have h1 := w_lt x
  have HW := Lib.hid (w_right x 19 (by decide) (by decide))
  rw [show ((2 ^ (32 - 19) : Nat) : Int) = 8192 from rfl, show ((2 ^ 19 : Nat) : Int) = 524288 from rfl] at HW
  generalize wv (rotr x 19) = v at *
  generalize wv x = z at *
  go_enter Tryz.func63, Tryz.ntmps63
  go_wp2_with fail
  refine wp_region_past (by kernel_rfl) (by kernel_rfl) ?_
  repeat (go_big_quiet_step (fail))
  refine wpQuiet_nil ?_
  intro w2 hw2
  obtain ⟨⟨wn, hn⟩, rfl⟩ := hw2
  try dsimp only
  go_wp2_with fail
  go_ret
  exact ⟨congrArg (fun q => Ending.returned (Value.int .u32 q)) HW.out, hn⟩
set_option maxRecDepth 100000 in
theorem right_22 (x : UInt32) (w : World) : Calls Tryz.prog 63 #[.int .u32 (wv x), .int .i64 22] w fun e w' => e = .returned (.int .u32 (wv (rotr x 22))) ∧ Below w.heap.size w w' := by
  have h0 := w_ge x
  have h1 := w_lt x
  have HW := Lib.hid (w_right x 22 (by decide) (by decide))
  rw [show ((2 ^ (32 - 22) : Nat) : Int) = 1024 from rfl, show ((2 ^ 22 : Nat) : Int) = 4194304 from rfl] at HW
  generalize wv (rotr x 22) = v at *
  generalize wv x = z at *
  go_enter Tryz.func63, Tryz.ntmps63
  go_wp2_with fail
  refine wp_region_past (by kernel_rfl) (by kernel_rfl) ?_
  repeat (go_big_quiet_step (fail))
  refine wpQuiet_nil ?_
  intro w2 hw2
  obtain ⟨⟨wn, hn⟩, rfl⟩ := hw2
  try dsimp only
  go_wp2_with fail
  go_ret
  exact ⟨congrArg (fun q => Ending.returned (Value.int .u32 q)) HW.out, hn⟩
set_option maxRecDepth 100000 in
theorem right_25 (x : UInt32) (w : World) : Calls Tryz.prog 63 #[.int .u32 (wv x), .int .i64 25] w fun e w' => e = .returned (.int .u32 (wv (rotr x 25))) ∧ Below w.heap.size w w' := by
  have h0 := w_ge x
  have h1 := w_lt x
  have HW := Lib.hid (w_right x 25 (by decide) (by decide))
  rw [show ((2 ^ (32 - 25) : Nat) : Int) = 128 from rfl, show ((2 ^ 25 : Nat) : Int) = 33554432 from rfl] at HW
  generalize wv (rotr x 25) = v at *
  generalize wv x = z at *
  go_enter Tryz.func63, Tryz.ntmps63
  go_wp2_with fail
  refine wp_region_past (by kernel_rfl) (by kernel_rfl) ?_
  repeat (go_big_quiet_step (fail))
  refine wpQuiet_nil ?_
  intro w2 hw2
  obtain ⟨⟨wn, hn⟩, rfl⟩ := hw2
  try dsimp only
  go_wp2_with fail
  go_ret
  exact ⟨congrArg (fun q => Ending.returned (Value.int .u32 q)) HW.out, hn⟩

def lenOf : Value → Nat
  | .slice _ n _ => n
  | _ => 0
/-- A new list of bytes is handed back. -/
def BytesRet (w : World) (l : List UInt8) (e : Ending) (w' : World) : Prop := ∃ v, e = .returned v ∧ OwnV w' w.heap.size 5 v (l.map Extern.Stop.cell) ∧ Below w.heap.size w w'
theorem info_u8 : ∃ i : TypeInfo, Tryz.prog.info? 5 = some i ∧ i.zero = some (.int .u8 0) ∧ i.size = 1 ∧ i.bytes = 1 := by
  have h : (Tryz.prog.info? 5).map (fun i => (i.zero, i.size, i.bytes)) = some (some (.int .u8 0), 1, 1) := by kernel_rfl
  cases hq : Tryz.prog.info? 5 with
  | none => rw [hq] at h; cases h
  | some i =>
    rw [hq] at h
    simp only [Option.map_some, Option.some.injEq, Prod.mk.injEq] at h
    exact ⟨i, rfl, h.1, h.2.1, h.2.2⟩
theorem map_snoc (l : List UInt8) (x : UInt8) : l.map Extern.Stop.cell ++ [Value.int .u8 (x.toNat : Int)] = (l ++ [x]).map Extern.Stop.cell := by
  rw [List.map_append]; rfl
/-- How many noughts stand behind the first byte of the filling. -/
def noughts (n : Nat) : Nat := 63 - (n + 8) % 64
theorem fill_is (n : Nat) : (128 :: List.replicate 63 0).take (64 - (n + 8) % 64) = (128 : UInt8) :: List.replicate (noughts n) 0 := by
  rw [show 64 - (n + 8) % 64 = noughts n + 1 by unfold noughts; omega, List.take_succ_cons, List.take_replicate]
  congr 2
  unfold noughts
  omega
def padJ (l : List UInt8) (j : Nat) : List UInt8 := l ++ 128 :: List.replicate j 0
theorem padJ_succ (l : List UInt8) (j : Nat) : padJ l j ++ [0] = padJ l (j + 1) := by
  unfold padJ
  rw [List.append_assoc, List.cons_append, ← List.replicate_succ']
theorem padJ_len (l : List UInt8) (j : Nat) : (padJ l j).length = l.length + 1 + j := by
  unfold padJ
  rw [List.length_append, List.length_cons, List.length_replicate]
  omega
/-- The last eight bytes, as many as there are. -/
def padI (l : List UInt8) (i : Nat) : List UInt8 := padJ l (noughts l.length) ++ (be8 (8 * l.length)).take i
theorem padI_8 (l : List UInt8) : padI l 8 = padded l := by
  unfold padI padJ padded padL
  rw [fill_is, List.take_of_length_le (show (be8 (8 * l.length)).length ≤ 8 from Nat.le_refl _)]
  simp only [List.append_assoc, List.cons_append]
theorem padI_len (l : List UInt8) (i : Nat) (hi : i ≤ 8) : (padI l i).length = l.length + 1 + noughts l.length + i := by
  unfold padI
  rw [List.length_append, padJ_len, List.length_take, show (be8 (8 * l.length)).length = 8 from rfl]
  omega
theorem padI_succ (l : List UInt8) (i : Nat) (hi : i < 8) (hl : l.length ≤ 10000) : padI l i ++ [UInt8.ofNat (8 * l.length / 256 ^ (7 - i))] = padI l (i + 1) := by
  unfold padI
  rw [List.append_assoc]
  congr 1
  have hb : (be8 (8 * l.length))[i]? = some (UInt8.ofNat (8 * l.length / 256 ^ (7 - i))) := by
    rw [be8_small _ (by omega)]
    obtain ⟨n, hn⟩ : ∃ n, 8 * l.length = n := ⟨_, rfl⟩
    have hn2 : n ≤ 80000 := by omega
    rw [hn]
    have e : (UInt32.ofNat n).toNat = n := by rw [UInt32.toNat_ofNat', Nat.mod_eq_of_lt (by omega)]
    match i, hi with
    | 0, _ => rw [Nat.div_eq_of_lt (by omega)]; rfl
    | 1, _ => rw [Nat.div_eq_of_lt (by omega)]; rfl
    | 2, _ => rw [Nat.div_eq_of_lt (by omega)]; rfl
    | 3, _ => rw [Nat.div_eq_of_lt (by omega)]; rfl
    | 4, _ => simp [oct, e]
    | 5, _ => simp [oct, e]
    | 6, _ => simp [oct, e]
    | 7, _ => simp [oct, e]
  rw [List.take_add_one, hb]
  rfl

set_option maxRecDepth 100000 in
set_option maxHeartbeats 2000000 in
theorem Padded_any (s : ByteArray) (w : World) (hs : s.size ≤ 10000) : Calls Tryz.prog 61 #[.string s] w (BytesRet w (padded s.data.toList)) := by
  obtain ⟨i0, hi, hz0, hz1, hz2⟩ := info_u8
  obtain ⟨l, hl⟩ : ∃ l, s.data.toList = l := ⟨_, rfl⟩
  obtain ⟨n, hn⟩ : ∃ n, s.size = n := ⟨_, rfl⟩
  have hln : l.length = n := by rw [← hl]; exact hn
  rw [hl]
  have hc1 := grownCap_ge w n 0 5
  have hc2 := grownCap_le_maxLen w n 0 5 (by unfold maxLen; omega)
  have o0 := ownV_bytes w s (grownCap w n 0 5) w.heap.size (Nat.le_refl _) (by omega) hc2
  rw [hl] at o0
  have hcv := run_bytes_of_string (P := Tryz.prog) w 9 105 5 s Tryz.underlying9 Tryz.underlying105 Tryz.underlying5
  rw [hn] at o0 hcv
  generalize grownCap w n 0 5 = cap at *
  generalize (Obj.cells (bytesRow s cap) 5 ((bytesRow s cap).size, (bytesRow s cap).size + 1)) = O at *
  have HCV := Lib.hid hcv
  have HLN := Lib.hid hln
  have HL := Lib.hid hl
  have hn1 : n ≤ 10000 := by omega
  have hn2 : (n : Int) ≤ 10000 := by omega
  have O0 := Lib.hid o0
  have b0 : Below w.heap.size w (w.drew.alloc O) := ((Below.refl _ _).drew).alloc (Nat.le_refl _) O
  clear hcv hln hl o0 hc1 hc2 hs
  go_enter Tryz.func61, Tryz.ntmps61
  go_wp2_with fail
  rw [HCV.out]
  simp only [Result.andThen]
  rw [Oper.upon_value]
  have b1 : Below w.heap.size w (((w.alloc O).alloc (.cells #[.int .u8 128] 5)).drew) := b0.alloc b0.size (.cells #[.int .u8 128] 5)
  have o1 : OwnV (((w.alloc O).alloc (.cells #[.int .u8 128] 5)).drew) w.heap.size 5 (.slice (some ⟨w.heap.size, 0, none⟩) n cap) (l.map Extern.Stop.cell) := O0.out.below ((Below.refl _ _).alloc (Nat.le_refl _) (.cells #[.int .u8 128] 5))
  have hcell : (((w.alloc O).alloc (.cells #[.int .u8 128] 5)).drew).cell? ⟨w.heap.size + 1, 0, none⟩ = some (.int .u8 128) := cell_of_rowAt (rowAt_alloc_at (w.alloc O) #[.int .u8 128] 5 _ (by simp)) 0
  go_wp2_with (at_builtin; refine wpList_put_one rfl _ _ 105 rfl 5 i0 _ 1 Tryz.underlying105 hi hz0 hz1 hz2 rfl w.heap.size _ _ rfl o1 (.int .u8 128) ⟨w.heap.size + 1, 0, none⟩ 1 rfl hcell rfl b1.size (by rw [List.length_map, HLN.out]; unfold maxLen; omega) (by rw [List.length_map, HLN.out]; omega) ?_)
  intro v2 w2 o2 hg2 _
  have b2 := b1.grown hg2 b1.size (fun k hk => (o1.lt k hk).1)
  have o3 : OwnV w2 w.heap.size 5 v2 ((padJ l 0).map Extern.Stop.cell) := by
    have := map_snoc l 128
    rw [show (((128 : UInt8).toNat : Nat) : Int) = 128 from rfl] at this
    rw [this] at o2
    exact o2
  have hK : noughts n ≤ 63 := by unfold noughts; omega
  have hKm : (n + 1 + noughts n) % 64 = 56 := by unfold noughts; omega
  obtain ⟨K, hKK⟩ : ∃ K, noughts n = K := ⟨_, rfl⟩
  rw [hKK] at hK hKm
  have HKK := Lib.hid hKK
  have HKM := Lib.hid hKm
  clear hKK hKm O0 b0 b1 o1 o2 hg2 hcell HCV
  go_wp2_with fail
  go_loopw [3] (fun v wr => ∃ j : Nat, j ≤ K ∧ OwnV wr w.heap.size 5 v ((padJ l j).map Extern.Stop.cell) ∧ Below w.heap.size w wr) (fun v _ => 11000 - lenOf v)
  case atStart => exact ⟨0, Nat.zero_le _, o3, b2⟩
  case round =>
    obtain ⟨j, hj, ow, b3⟩ := hrel
    clear o3 b2
    obtain ⟨ao, cp, hv⟩ := ow.shape
    rw [List.length_map, padJ_len, HLN.out] at hv
    subst hv
    have hm0 : (0 : Int) ≤ ((n + 1 + j : Nat) : Int) := by omega
    have hm1 : ((n + 1 + j : Nat) : Int) ≤ 10100 := by omega
    by_cases hjK : j < K
    · have hq : ((((n + 1 + j : Nat) : Int) % 64) != 56) = true := by
        rw [bne_iff_ne]
        have := HKM.out
        omega
      have b4 : Below w.heap.size w (wr.alloc (.cells #[.int .u8 0] 5)) := b3.alloc b3.size _
      have o4 := ow.below ((Below.refl _ _).alloc (Nat.le_refl _) (.cells #[.int .u8 0] 5))
      have hcell : (wr.alloc (.cells #[.int .u8 0] 5)).cell? ⟨wr.heap.size, 0, none⟩ = some (.int .u8 0) := cell_of_rowAt (rowAt_alloc_at wr #[.int .u8 0] 5 _ rfl) 0
      have hlen : (List.map Extern.Stop.cell (padJ l j)).length = n + 1 + j := by rw [List.length_map, padJ_len, HLN.out]
      obtain ⟨m, hm⟩ : ∃ m, n + 1 + j = m := ⟨_, rfl⟩
      rw [hm] at hq hm0 hm1 o4 hlen ⊢
      have HLEN := Lib.hid hlen
      clear ow b3 hlen
      go_wp2_with (at_builtin; refine wpList_put_one rfl _ _ 105 rfl 5 i0 _ 1 Tryz.underlying105 hi hz0 hz1 hz2 rfl w.heap.size _ _ rfl o4 (.int .u8 0) ⟨wr.heap.size, 0, none⟩ 1 rfl hcell rfl b4.size (by rw [HLEN.out]; unfold maxLen; omega) (by rw [HLEN.out]; omega) ?_)
      intro v5 w5 o5 hg5 _
      have b5 := b4.grown hg5 b4.size (fun k hk => (o4.lt k hk).1)
      have o6 : OwnV w5 w.heap.size 5 v5 ((padJ l (j + 1)).map Extern.Stop.cell) := by
        have := map_snoc (padJ l j) 0
        rw [show (((0 : UInt8).toNat : Nat) : Int) = 0 from rfl, padJ_succ] at this
        rw [this] at o5
        exact o5
      have hv5 : lenOf v5 = m + 1 := by
        obtain ⟨ao5, cp5, rfl⟩ := o6.shape
        rw [List.length_map, padJ_len, HLN.out]
        show n + 1 + (j + 1) = _
        omega
      clear o4 o5 hg5 hcell b4
      have HV5 := Lib.hid hv5
      clear hv5
      go_wp2_with fail
      exact ⟨⟨j + 1, hjK, o6, b5⟩, by rw [show lenOf (.slice ao m cp) = m from rfl, HV5.out]; omega⟩
    · obtain rfl : j = K := by omega
      have hq : ((((n + 1 + j : Nat) : Int) % 64) != 56) = false := by
        rw [bne_eq_false_iff_eq]
        have := HKM.out
        omega
      have hz : s.size = n := hn
      have hq2 : (((n : Int) + 1 + j) % 64 != 56) = false := by
        rw [bne_eq_false_iff_eq]
        have := HKM.out
        omega
      have ow2 : OwnV wr w.heap.size 5 (.slice ao (n + 1 + j) cp) ((padI l 0).map Extern.Stop.cell) := by
        unfold padI
        rw [HLN.out, HKK.out, List.take_zero, List.append_nil]
        exact ow
      clear ow
      go_wp2_with fail
      generalize Value.slice ao (n + 1 + j) cp = v0 at *
      go_loopw [3, 5] (fun v x wr => ∃ i : Nat, i ≤ 8 ∧ x = .int .i64 i ∧ OwnV wr w.heap.size 5 v ((padI l i).map Extern.Stop.cell) ∧ Below w.heap.size w wr) (fun _ x _ => (8 - intOf x).toNat)
      case atStart => exact ⟨0, by omega, rfl, ow2, b3⟩
      case round =>
        obtain ⟨i, hi8, rfl, ow, b3⟩ := hrel
        clear ow2
        by_cases hlt : i < 8
        · rcases (by omega : i = 0 ∨ i = 1 ∨ i = 2 ∨ i = 3 ∨ i = 4 ∨ i = 5 ∨ i = 6 ∨ i = 7) with rfl | rfl | rfl | rfl | rfl | rfl | rfl | rfl
          · rw [show ((0 : Nat) : Int) = 0 from rfl]
            have hby : (n : Int) * 8 / 72057594037927936 = ((UInt8.ofNat (8 * n / 256 ^ (7 - 0))).toNat : Int) := by
              rw [UInt8.toNat_ofNat', show (256 : Nat) ^ (7 - 0) = 72057594037927936 from rfl]
              omega
            have HBY := Lib.hid hby
            clear hby
            have b4 : Below w.heap.size w (wr.alloc (.cells #[.int .u8 ((n : Int) * 8 / 72057594037927936)] 5)) := b3.alloc b3.size _
            have o4 := ow.below ((Below.refl _ _).alloc (Nat.le_refl _) (.cells #[.int .u8 ((n : Int) * 8 / 72057594037927936)] 5))
            have hcell : (wr.alloc (.cells #[.int .u8 ((n : Int) * 8 / 72057594037927936)] 5)).cell? ⟨wr.heap.size, 0, none⟩ = some (.int .u8 ((n : Int) * 8 / 72057594037927936)) := cell_of_rowAt (rowAt_alloc_at wr #[.int .u8 ((n : Int) * 8 / 72057594037927936)] 5 _ rfl) 0
            have HLEN : Hid ((List.map Extern.Stop.cell (padI l 0)).length ≤ 20000) := Lib.hid (by rw [List.length_map, padI_len _ _ (by decide), HLN.out, HKK.out]; omega)
            clear ow b3
            go_wp2_with (at_builtin; refine wpList_put_one rfl _ _ 105 rfl 5 i0 _ 1 Tryz.underlying105 hi hz0 hz1 hz2 rfl w.heap.size _ _ rfl o4 (.int .u8 ((n : Int) * 8 / 72057594037927936)) ⟨wr.heap.size, 0, none⟩ 1 rfl hcell rfl b4.size (by have := HLEN.out; unfold maxLen; omega) (by have := HLEN.out; omega) ?_)
            intro v5 w5 o5 hg5 _
            have b5 := b4.grown hg5 b4.size (fun k hk => (o4.lt k hk).1)
            have o6 : OwnV w5 w.heap.size 5 v5 ((padI l (0 + 1)).map Extern.Stop.cell) := by
              rw [HBY.out, map_snoc, ← HLN.out, padI_succ l 0 (by decide) (by rw [HLN.out]; exact hn1)] at o5
              exact o5
            clear o4 o5 hg5 hcell b4
            go_wp2_with fail
            exact ⟨⟨0 + 1, by decide, rfl, o6, b5⟩, by simp [intOf]⟩
          · rw [show ((1 : Nat) : Int) = 1 from rfl]
            have hby : (n : Int) * 8 / 281474976710656 = ((UInt8.ofNat (8 * n / 256 ^ (7 - 1))).toNat : Int) := by
              rw [UInt8.toNat_ofNat', show (256 : Nat) ^ (7 - 1) = 281474976710656 from rfl]
              omega
            have HBY := Lib.hid hby
            clear hby
            have b4 : Below w.heap.size w (wr.alloc (.cells #[.int .u8 ((n : Int) * 8 / 281474976710656)] 5)) := b3.alloc b3.size _
            have o4 := ow.below ((Below.refl _ _).alloc (Nat.le_refl _) (.cells #[.int .u8 ((n : Int) * 8 / 281474976710656)] 5))
            have hcell : (wr.alloc (.cells #[.int .u8 ((n : Int) * 8 / 281474976710656)] 5)).cell? ⟨wr.heap.size, 0, none⟩ = some (.int .u8 ((n : Int) * 8 / 281474976710656)) := cell_of_rowAt (rowAt_alloc_at wr #[.int .u8 ((n : Int) * 8 / 281474976710656)] 5 _ rfl) 0
            have HLEN : Hid ((List.map Extern.Stop.cell (padI l 1)).length ≤ 20000) := Lib.hid (by rw [List.length_map, padI_len _ _ (by decide), HLN.out, HKK.out]; omega)
            clear ow b3
            go_wp2_with (at_builtin; refine wpList_put_one rfl _ _ 105 rfl 5 i0 _ 1 Tryz.underlying105 hi hz0 hz1 hz2 rfl w.heap.size _ _ rfl o4 (.int .u8 ((n : Int) * 8 / 281474976710656)) ⟨wr.heap.size, 0, none⟩ 1 rfl hcell rfl b4.size (by have := HLEN.out; unfold maxLen; omega) (by have := HLEN.out; omega) ?_)
            intro v5 w5 o5 hg5 _
            have b5 := b4.grown hg5 b4.size (fun k hk => (o4.lt k hk).1)
            have o6 : OwnV w5 w.heap.size 5 v5 ((padI l (1 + 1)).map Extern.Stop.cell) := by
              rw [HBY.out, map_snoc, ← HLN.out, padI_succ l 1 (by decide) (by rw [HLN.out]; exact hn1)] at o5
              exact o5
            clear o4 o5 hg5 hcell b4
            go_wp2_with fail
            exact ⟨⟨1 + 1, by decide, rfl, o6, b5⟩, by simp [intOf]⟩
          · rw [show ((2 : Nat) : Int) = 2 from rfl]
            have hby : (n : Int) * 8 / 1099511627776 = ((UInt8.ofNat (8 * n / 256 ^ (7 - 2))).toNat : Int) := by
              rw [UInt8.toNat_ofNat', show (256 : Nat) ^ (7 - 2) = 1099511627776 from rfl]
              omega
            have HBY := Lib.hid hby
            clear hby
            have b4 : Below w.heap.size w (wr.alloc (.cells #[.int .u8 ((n : Int) * 8 / 1099511627776)] 5)) := b3.alloc b3.size _
            have o4 := ow.below ((Below.refl _ _).alloc (Nat.le_refl _) (.cells #[.int .u8 ((n : Int) * 8 / 1099511627776)] 5))
            have hcell : (wr.alloc (.cells #[.int .u8 ((n : Int) * 8 / 1099511627776)] 5)).cell? ⟨wr.heap.size, 0, none⟩ = some (.int .u8 ((n : Int) * 8 / 1099511627776)) := cell_of_rowAt (rowAt_alloc_at wr #[.int .u8 ((n : Int) * 8 / 1099511627776)] 5 _ rfl) 0
            have HLEN : Hid ((List.map Extern.Stop.cell (padI l 2)).length ≤ 20000) := Lib.hid (by rw [List.length_map, padI_len _ _ (by decide), HLN.out, HKK.out]; omega)
            clear ow b3
            go_wp2_with (at_builtin; refine wpList_put_one rfl _ _ 105 rfl 5 i0 _ 1 Tryz.underlying105 hi hz0 hz1 hz2 rfl w.heap.size _ _ rfl o4 (.int .u8 ((n : Int) * 8 / 1099511627776)) ⟨wr.heap.size, 0, none⟩ 1 rfl hcell rfl b4.size (by have := HLEN.out; unfold maxLen; omega) (by have := HLEN.out; omega) ?_)
            intro v5 w5 o5 hg5 _
            have b5 := b4.grown hg5 b4.size (fun k hk => (o4.lt k hk).1)
            have o6 : OwnV w5 w.heap.size 5 v5 ((padI l (2 + 1)).map Extern.Stop.cell) := by
              rw [HBY.out, map_snoc, ← HLN.out, padI_succ l 2 (by decide) (by rw [HLN.out]; exact hn1)] at o5
              exact o5
            clear o4 o5 hg5 hcell b4
            go_wp2_with fail
            exact ⟨⟨2 + 1, by decide, rfl, o6, b5⟩, by simp [intOf]⟩
          · rw [show ((3 : Nat) : Int) = 3 from rfl]
            have hby : (n : Int) * 8 / 4294967296 = ((UInt8.ofNat (8 * n / 256 ^ (7 - 3))).toNat : Int) := by
              rw [UInt8.toNat_ofNat', show (256 : Nat) ^ (7 - 3) = 4294967296 from rfl]
              omega
            have HBY := Lib.hid hby
            clear hby
            have b4 : Below w.heap.size w (wr.alloc (.cells #[.int .u8 ((n : Int) * 8 / 4294967296)] 5)) := b3.alloc b3.size _
            have o4 := ow.below ((Below.refl _ _).alloc (Nat.le_refl _) (.cells #[.int .u8 ((n : Int) * 8 / 4294967296)] 5))
            have hcell : (wr.alloc (.cells #[.int .u8 ((n : Int) * 8 / 4294967296)] 5)).cell? ⟨wr.heap.size, 0, none⟩ = some (.int .u8 ((n : Int) * 8 / 4294967296)) := cell_of_rowAt (rowAt_alloc_at wr #[.int .u8 ((n : Int) * 8 / 4294967296)] 5 _ rfl) 0
            have HLEN : Hid ((List.map Extern.Stop.cell (padI l 3)).length ≤ 20000) := Lib.hid (by rw [List.length_map, padI_len _ _ (by decide), HLN.out, HKK.out]; omega)
            clear ow b3
            go_wp2_with (at_builtin; refine wpList_put_one rfl _ _ 105 rfl 5 i0 _ 1 Tryz.underlying105 hi hz0 hz1 hz2 rfl w.heap.size _ _ rfl o4 (.int .u8 ((n : Int) * 8 / 4294967296)) ⟨wr.heap.size, 0, none⟩ 1 rfl hcell rfl b4.size (by have := HLEN.out; unfold maxLen; omega) (by have := HLEN.out; omega) ?_)
            intro v5 w5 o5 hg5 _
            have b5 := b4.grown hg5 b4.size (fun k hk => (o4.lt k hk).1)
            have o6 : OwnV w5 w.heap.size 5 v5 ((padI l (3 + 1)).map Extern.Stop.cell) := by
              rw [HBY.out, map_snoc, ← HLN.out, padI_succ l 3 (by decide) (by rw [HLN.out]; exact hn1)] at o5
              exact o5
            clear o4 o5 hg5 hcell b4
            go_wp2_with fail
            exact ⟨⟨3 + 1, by decide, rfl, o6, b5⟩, by simp [intOf]⟩
          · rw [show ((4 : Nat) : Int) = 4 from rfl]
            have hby : (n : Int) * 8 / 16777216 = ((UInt8.ofNat (8 * n / 256 ^ (7 - 4))).toNat : Int) := by
              rw [UInt8.toNat_ofNat', show (256 : Nat) ^ (7 - 4) = 16777216 from rfl]
              omega
            have HBY := Lib.hid hby
            clear hby
            have b4 : Below w.heap.size w (wr.alloc (.cells #[.int .u8 ((n : Int) * 8 / 16777216)] 5)) := b3.alloc b3.size _
            have o4 := ow.below ((Below.refl _ _).alloc (Nat.le_refl _) (.cells #[.int .u8 ((n : Int) * 8 / 16777216)] 5))
            have hcell : (wr.alloc (.cells #[.int .u8 ((n : Int) * 8 / 16777216)] 5)).cell? ⟨wr.heap.size, 0, none⟩ = some (.int .u8 ((n : Int) * 8 / 16777216)) := cell_of_rowAt (rowAt_alloc_at wr #[.int .u8 ((n : Int) * 8 / 16777216)] 5 _ rfl) 0
            have HLEN : Hid ((List.map Extern.Stop.cell (padI l 4)).length ≤ 20000) := Lib.hid (by rw [List.length_map, padI_len _ _ (by decide), HLN.out, HKK.out]; omega)
            clear ow b3
            go_wp2_with (at_builtin; refine wpList_put_one rfl _ _ 105 rfl 5 i0 _ 1 Tryz.underlying105 hi hz0 hz1 hz2 rfl w.heap.size _ _ rfl o4 (.int .u8 ((n : Int) * 8 / 16777216)) ⟨wr.heap.size, 0, none⟩ 1 rfl hcell rfl b4.size (by have := HLEN.out; unfold maxLen; omega) (by have := HLEN.out; omega) ?_)
            intro v5 w5 o5 hg5 _
            have b5 := b4.grown hg5 b4.size (fun k hk => (o4.lt k hk).1)
            have o6 : OwnV w5 w.heap.size 5 v5 ((padI l (4 + 1)).map Extern.Stop.cell) := by
              rw [HBY.out, map_snoc, ← HLN.out, padI_succ l 4 (by decide) (by rw [HLN.out]; exact hn1)] at o5
              exact o5
            clear o4 o5 hg5 hcell b4
            go_wp2_with fail
            exact ⟨⟨4 + 1, by decide, rfl, o6, b5⟩, by simp [intOf]⟩
          · rw [show ((5 : Nat) : Int) = 5 from rfl]
            have hby : (n : Int) * 8 / 65536 = ((UInt8.ofNat (8 * n / 256 ^ (7 - 5))).toNat : Int) := by
              rw [UInt8.toNat_ofNat', show (256 : Nat) ^ (7 - 5) = 65536 from rfl]
              omega
            have HBY := Lib.hid hby
            clear hby
            have b4 : Below w.heap.size w (wr.alloc (.cells #[.int .u8 ((n : Int) * 8 / 65536)] 5)) := b3.alloc b3.size _
            have o4 := ow.below ((Below.refl _ _).alloc (Nat.le_refl _) (.cells #[.int .u8 ((n : Int) * 8 / 65536)] 5))
            have hcell : (wr.alloc (.cells #[.int .u8 ((n : Int) * 8 / 65536)] 5)).cell? ⟨wr.heap.size, 0, none⟩ = some (.int .u8 ((n : Int) * 8 / 65536)) := cell_of_rowAt (rowAt_alloc_at wr #[.int .u8 ((n : Int) * 8 / 65536)] 5 _ rfl) 0
            have HLEN : Hid ((List.map Extern.Stop.cell (padI l 5)).length ≤ 20000) := Lib.hid (by rw [List.length_map, padI_len _ _ (by decide), HLN.out, HKK.out]; omega)
            clear ow b3
            go_wp2_with (at_builtin; refine wpList_put_one rfl _ _ 105 rfl 5 i0 _ 1 Tryz.underlying105 hi hz0 hz1 hz2 rfl w.heap.size _ _ rfl o4 (.int .u8 ((n : Int) * 8 / 65536)) ⟨wr.heap.size, 0, none⟩ 1 rfl hcell rfl b4.size (by have := HLEN.out; unfold maxLen; omega) (by have := HLEN.out; omega) ?_)
            intro v5 w5 o5 hg5 _
            have b5 := b4.grown hg5 b4.size (fun k hk => (o4.lt k hk).1)
            have o6 : OwnV w5 w.heap.size 5 v5 ((padI l (5 + 1)).map Extern.Stop.cell) := by
              rw [HBY.out, map_snoc, ← HLN.out, padI_succ l 5 (by decide) (by rw [HLN.out]; exact hn1)] at o5
              exact o5
            clear o4 o5 hg5 hcell b4
            go_wp2_with fail
            exact ⟨⟨5 + 1, by decide, rfl, o6, b5⟩, by simp [intOf]⟩
          · rw [show ((6 : Nat) : Int) = 6 from rfl]
            have hby : (n : Int) * 8 / 256 % 256 = ((UInt8.ofNat (8 * n / 256 ^ (7 - 6))).toNat : Int) := by
              rw [UInt8.toNat_ofNat', show (256 : Nat) ^ (7 - 6) = 256 from rfl]
              omega
            have HBY := Lib.hid hby
            clear hby
            have b4 : Below w.heap.size w (wr.alloc (.cells #[.int .u8 ((n : Int) * 8 / 256 % 256)] 5)) := b3.alloc b3.size _
            have o4 := ow.below ((Below.refl _ _).alloc (Nat.le_refl _) (.cells #[.int .u8 ((n : Int) * 8 / 256 % 256)] 5))
            have hcell : (wr.alloc (.cells #[.int .u8 ((n : Int) * 8 / 256 % 256)] 5)).cell? ⟨wr.heap.size, 0, none⟩ = some (.int .u8 ((n : Int) * 8 / 256 % 256)) := cell_of_rowAt (rowAt_alloc_at wr #[.int .u8 ((n : Int) * 8 / 256 % 256)] 5 _ rfl) 0
            have HLEN : Hid ((List.map Extern.Stop.cell (padI l 6)).length ≤ 20000) := Lib.hid (by rw [List.length_map, padI_len _ _ (by decide), HLN.out, HKK.out]; omega)
            clear ow b3
            go_wp2_with (at_builtin; refine wpList_put_one rfl _ _ 105 rfl 5 i0 _ 1 Tryz.underlying105 hi hz0 hz1 hz2 rfl w.heap.size _ _ rfl o4 (.int .u8 ((n : Int) * 8 / 256 % 256)) ⟨wr.heap.size, 0, none⟩ 1 rfl hcell rfl b4.size (by have := HLEN.out; unfold maxLen; omega) (by have := HLEN.out; omega) ?_)
            intro v5 w5 o5 hg5 _
            have b5 := b4.grown hg5 b4.size (fun k hk => (o4.lt k hk).1)
            have o6 : OwnV w5 w.heap.size 5 v5 ((padI l (6 + 1)).map Extern.Stop.cell) := by
              rw [HBY.out, map_snoc, ← HLN.out, padI_succ l 6 (by decide) (by rw [HLN.out]; exact hn1)] at o5
              exact o5
            clear o4 o5 hg5 hcell b4
            go_wp2_with fail
            exact ⟨⟨6 + 1, by decide, rfl, o6, b5⟩, by simp [intOf]⟩
          · rw [show ((7 : Nat) : Int) = 7 from rfl]
            have hby : (n : Int) * 8 % 256 = ((UInt8.ofNat (8 * n / 256 ^ (7 - 7))).toNat : Int) := by
              rw [UInt8.toNat_ofNat', show (256 : Nat) ^ (7 - 7) = 1 from rfl]
              omega
            have HBY := Lib.hid hby
            clear hby
            have b4 : Below w.heap.size w (wr.alloc (.cells #[.int .u8 ((n : Int) * 8 % 256)] 5)) := b3.alloc b3.size _
            have o4 := ow.below ((Below.refl _ _).alloc (Nat.le_refl _) (.cells #[.int .u8 ((n : Int) * 8 % 256)] 5))
            have hcell : (wr.alloc (.cells #[.int .u8 ((n : Int) * 8 % 256)] 5)).cell? ⟨wr.heap.size, 0, none⟩ = some (.int .u8 ((n : Int) * 8 % 256)) := cell_of_rowAt (rowAt_alloc_at wr #[.int .u8 ((n : Int) * 8 % 256)] 5 _ rfl) 0
            have HLEN : Hid ((List.map Extern.Stop.cell (padI l 7)).length ≤ 20000) := Lib.hid (by rw [List.length_map, padI_len _ _ (by decide), HLN.out, HKK.out]; omega)
            clear ow b3
            go_wp2_with (at_builtin; refine wpList_put_one rfl _ _ 105 rfl 5 i0 _ 1 Tryz.underlying105 hi hz0 hz1 hz2 rfl w.heap.size _ _ rfl o4 (.int .u8 ((n : Int) * 8 % 256)) ⟨wr.heap.size, 0, none⟩ 1 rfl hcell rfl b4.size (by have := HLEN.out; unfold maxLen; omega) (by have := HLEN.out; omega) ?_)
            intro v5 w5 o5 hg5 _
            have b5 := b4.grown hg5 b4.size (fun k hk => (o4.lt k hk).1)
            have o6 : OwnV w5 w.heap.size 5 v5 ((padI l (7 + 1)).map Extern.Stop.cell) := by
              rw [HBY.out, map_snoc, ← HLN.out, padI_succ l 7 (by decide) (by rw [HLN.out]; exact hn1)] at o5
              exact o5
            clear o4 o5 hg5 hcell b4
            go_wp2_with fail
            exact ⟨⟨7 + 1, by decide, rfl, o6, b5⟩, by simp [intOf]⟩
        · obtain rfl : i = 8 := by omega
          rw [padI_8] at ow
          rw [show ((8 : Nat) : Int) = 8 from rfl]
          go_wp2_with fail
          go_ret
          exact ⟨_, rfl, ow, b3⟩
end Go.Proofs.YtmabigcolabbmaaGreatDoor
namespace Go.Proofs.YtmabigcolabbmaaGreatDoor
open Go Go.RowKit

@[go_sem] theorem build_w64_0 (w : World) : (buildOf 103 #[]).run Tryz.prog w = .ok (.agg (cellsK zeroK)) w := by
  rw [zeroK_cells]
  kernel_rfl
set_option maxRecDepth 100000 in
set_option maxHeartbeats 4000000 in
theorem Words_any (g o cap : Nat) (bs : List UInt8) (w : World) (hb : ∀ j, j < 64 → w.cell? ⟨g, o + j, none⟩ = some (.int .u8 ((bs.getD j 0).toNat : Int))) :
    Calls Tryz.prog 62 #[.slice (some ⟨g, o, none⟩) 64 cap] w fun e w' => e = .returned (.agg (cellsK (schedK bs 64))) ∧ Below w.heap.size w w' := by
  have b0 : Below w.heap.size w ((w.alloc (.cells (cellsK zeroK) 103)).alloc (.cells (cellsK zeroK) 103)) := ((Below.refl _ _).alloc (Nat.le_refl _) _).alloc (by simp only [World.size_alloc]; omega) _
  have r0 : rowAt ((w.alloc (.cells (cellsK zeroK) 103)).alloc (.cells (cellsK zeroK) 103)) w.heap.size = some (cellsK zeroK) := (rowAt_alloc_past _ _ _ (by simp only [World.size_alloc]; omega)).trans (rowAt_alloc_at _ _ _ _ rfl)
  have r1 : rowAt ((w.alloc (.cells (cellsK zeroK) 103)).alloc (.cells (cellsK zeroK) 103)) (w.heap.size + 1) = some (cellsK (schedK bs 0)) := rowAt_alloc_at _ _ _ _ (by simp only [World.size_alloc])
  have HBS := Lib.hid hb
  clear hb
  go_enter Tryz.func62, Tryz.ntmps62
  go_wp2_with fail
  generalize ((w.alloc (.cells (cellsK zeroK) 103)).alloc (.cells (cellsK zeroK) 103)) = W at *
  go_loopw [4] (fun x wr => ∃ i : Nat, i ≤ 16 ∧ x = .int .i64 i ∧ rowAt wr w.heap.size = some (cellsK zeroK) ∧ rowAt wr (w.heap.size + 1) = some (cellsK (schedK bs i)) ∧ Below w.heap.size w wr) (fun x _ => (16 - intOf x).toNat)
  case atStart => exact ⟨0, by omega, rfl, r0, r1, b0⟩
  case round =>
    obtain ⟨i, hi, rfl, k0, k1, b1⟩ := hrel
    clear r0 r1 b0
    by_cases hlt : i < 16
    · have hlt' : (i : Int) < 16 := by omega
      have g0 : 0 ≤ (i : Int) := by omega
      have hx0 := HBS.out (4 * i) (by omega)
      have hx1 := HBS.out (4 * i + 1) (by omega)
      have hx2 := HBS.out (4 * i + 2) (by omega)
      have hx3 := HBS.out (4 * i + 3) (by omega)
      have c0 := (b1.cell (p := ⟨g, o + 4 * i, none⟩) (cellLt hx0)).trans hx0
      have c1 := (b1.cell (p := ⟨g, o + (4 * i + 1), none⟩) (cellLt hx1)).trans hx1
      have c2 := (b1.cell (p := ⟨g, o + (4 * i + 2), none⟩) (cellLt hx2)).trans hx2
      have c3 := (b1.cell (p := ⟨g, o + (4 * i + 3), none⟩) (cellLt hx3)).trans hx3
      have d0 : wr.cell? ⟨w.heap.size + 1, i, none⟩ = some (.int .u32 (wv ((schedK bs i).get i))) := by rw [cell_of_rowAt k1, get_cellsK _ _ (by omega)]
      have f0 := frozen_of_rowAt k1 i
      have HS := Lib.hid (schedK_set bs i (by omega))
      rw [if_pos hlt] at HS
      have h0 := (bs.getD (4 * i) 0).toNat_lt
      have h1 := (bs.getD (4 * i + 1) 0).toNat_lt
      have h2 := (bs.getD (4 * i + 2) 0).toNat_lt
      have h3 := (bs.getD (4 * i + 3) 0).toNat_lt
      have HWD : Hid (word4 bs i = UInt32.ofNat ((bs.getD (4 * i) 0).toNat * 16777216 + (bs.getD (4 * i + 1) 0).toNat * 65536 + (bs.getD (4 * i + 2) 0).toNat * 256 + (bs.getD (4 * i + 3) 0).toNat)) := Lib.hid rfl
      have K0 := Lib.hid k0
      have K1 := Lib.hid k1
      have B1 := Lib.hid b1
      clear k0 k1 hx0 hx1 hx2 hx3 b1
      generalize (bs.getD (4 * i) 0).toNat = x0 at *
      generalize (bs.getD (4 * i + 1) 0).toNat = x1 at *
      generalize (bs.getD (4 * i + 2) 0).toNat = x2 at *
      generalize (bs.getD (4 * i + 3) 0).toNat = x3 at *
      have z0 : (x0 : Int) < 256 := by omega
      have z1 : (x1 : Int) < 256 := by omega
      have z2 : (x2 : Int) < 256 := by omega
      have z3 : (x3 : Int) < 256 := by omega
      have y0 : (0 : Int) ≤ x0 := by omega
      have y1 : (0 : Int) ≤ x1 := by omega
      have y2 : (0 : Int) ≤ x2 := by omega
      have y3 : (0 : Int) ≤ x3 := by omega
      have HE : Hid ((x0 : Int) * 16777216 + (x1 : Int) * 65536 + (x2 : Int) * 256 + (x3 : Int) = wv (word4 bs i)) := Lib.hid (by
        rw [HWD.out, wv, UInt32.toNat_ofNat', Nat.mod_eq_of_lt (by omega)]
        omega)
      have q0 : ∀ x : Past wr, x.w.cell? ⟨g, o + 4 * i, none⟩ = some (.int .u8 x0) := fun x => (Past.cell (cellLt c0) x).trans c0
      have q1 : ∀ x : Past wr, x.w.cell? ⟨g, o + (4 * i + 1), none⟩ = some (.int .u8 x1) := fun x => (Past.cell (cellLt c1) x).trans c1
      have q2 : ∀ x : Past wr, x.w.cell? ⟨g, o + (4 * i + 2), none⟩ = some (.int .u8 x2) := fun x => (Past.cell (cellLt c2) x).trans c2
      have q3 : ∀ x : Past wr, x.w.cell? ⟨g, o + (4 * i + 3), none⟩ = some (.int .u8 x3) := fun x => (Past.cell (cellLt c3) x).trans c3
      clear HWD c0 c1 c2 c3
      go_wp2_with fail
      refine wp_region_wildL [] 38 (by kernel_rfl) (by kernel_rfl) ?_
      simp only [List.take_succ_cons, List.take_zero]
      iterate 38 (refine wildL_val (by decide) (by kernel_rfl) rfl ?_; intro K hK; go_big_quiet_op; go_big_quiet_on)
      refine wildL_nil ?_
      simp only [List.drop_succ_cons, List.drop_zero]
      rintro ⟨z, hz⟩
      change wpList _ _ _ _ _ z
      have e0 : z.cell? ⟨w.heap.size + 1, i, none⟩ = some (.int .u32 (wv ((schedK bs i).get i))) := by rw [cell_of_rowAt (rowAt_past hz K1.out), get_cellsK _ _ (by omega)]
      have e1 := frozen_of_rowAt (rowAt_past hz K1.out) i
      have K2 := Lib.hid (rowAt_past hz K0.out)
      have K3 := Lib.hid (rowAt_past hz K1.out)
      have b2 := below_past B1.out hz B1.out.size
      clear q0 q1 q2 q3 d0 f0 K0 K1 B1 hz
      go_wp2_with fail
      rw [HE.out]
      have p1 : rowAt (z.setCell ⟨w.heap.size + 1, i, none⟩ (.int .u32 (wv (word4 bs i)))) (w.heap.size + 1) = some (cellsK (schedK bs (i + 1))) := by
        rw [rowAt_setCell_same K3.out, set_cellsK, HS.out]
      have p0 : rowAt (z.setCell ⟨w.heap.size + 1, i, none⟩ (.int .u32 (wv (word4 bs i)))) w.heap.size = some (cellsK zeroK) := by
        rw [rowAt_setCell_other _ _ _ _ (by simp), K2.out]
      have b3 : Below w.heap.size w (z.setCell ⟨w.heap.size + 1, i, none⟩ (.int .u32 (wv (word4 bs i)))) := b2.setCell (by simp) _
      exact ⟨⟨i + 1, hlt, by go_num, p0, p1, b3⟩, by simp [intOf]; omega⟩
    · obtain rfl : i = 16 := by omega
      rw [show ((16 : Nat) : Int) = 16 from rfl]
      have K0 := Lib.hid k0
      have K1 := Lib.hid k1
      clear k0 k1
      go_wp2_with fail
      go_loopw [5] (fun x wr => ∃ i : Nat, 16 ≤ i ∧ i ≤ 64 ∧ x = .int .i64 i ∧ rowAt wr w.heap.size = some (cellsK zeroK) ∧ rowAt wr (w.heap.size + 1) = some (cellsK (schedK bs i)) ∧ Below w.heap.size w wr) (fun x _ => (64 - intOf x).toNat)
      case atStart => exact ⟨16, by omega, by omega, rfl, K0.out, K1.out, b1⟩
      case round =>
        obtain ⟨i, hi1, hi, rfl, k0, k1, b1⟩ := hrel
        clear K0 K1
        have hi1' : 16 ≤ (i : Int) := by omega
        by_cases hlt : i < 64
        · have hlt' : (i : Int) < 64 := by omega
          have hg : ∀ j, j < i → ∀ x : Past wr, x.w.cell? ⟨w.heap.size + 1, j, none⟩ = some (.int .u32 (wv ((sched bs i).getD j 0))) := fun j hj x => by rw [cell_of_rowAt (rowAt_past x.h k1), get_cellsK _ _ (by omega), schedK_get _ _ _ hi hj]
          have c15 := hg (i - 15) (by omega)
          have c2 := hg (i - 2) (by omega)
          have c16 := hg (i - 16) (by omega)
          have c7 := hg (i - 7) (by omega)
          have n15 : ((i : Int) - 15).toNat = i - 15 := by omega
          have n2 : ((i : Int) - 2).toNat = i - 2 := by omega
          have n16 : ((i : Int) - 16).toNat = i - 16 := by omega
          have n7 : ((i : Int) - 7).toNat = i - 7 := by omega
          have hi7 : 7 ≤ (i : Int) := by omega
          have w16 : IntKind.i64.wrap ((i : Int) - 16) = (i : Int) - 16 := IntWalk.i64_in _ (by omega)
          have w7 : IntKind.i64.wrap ((i : Int) - 7) = (i : Int) - 7 := IntWalk.i64_in _ (by omega)
          have w15 : IntKind.i64.wrap ((i : Int) - 15) = (i : Int) - 15 := IntWalk.i64_in _ (by omega)
          have w2 : IntKind.i64.wrap ((i : Int) - 2) = (i : Int) - 2 := IntWalk.i64_in _ (by omega)
          have p16 : 0 ≤ (i : Int) - 16 ∧ (i : Int) - 16 < 64 := by omega
          have p7 : 0 ≤ (i : Int) - 7 ∧ (i : Int) - 7 < 64 := by omega
          have p15 : 0 ≤ (i : Int) - 15 ∧ (i : Int) - 15 < 64 := by omega
          have p2 : 0 ≤ (i : Int) - 2 ∧ (i : Int) - 2 < 64 := by omega
          have HS := Lib.hid (schedK_set bs i (by omega))
          rw [if_neg (show ¬ i < 16 by omega)] at HS
          have HNW : Hid (nextW (sched bs i) i = (sched bs i).getD (i - 16) 0 + sig0 ((sched bs i).getD (i - 15) 0) + (sched bs i).getD (i - 7) 0 + sig1 ((sched bs i).getD (i - 2) 0)) := Lib.hid rfl
          have K0 := Lib.hid k0
          have K1 := Lib.hid k1
          clear k0 k1 hg
          generalize (sched bs i).getD (i - 16) 0 = y16 at *
          generalize (sched bs i).getD (i - 15) 0 = y15 at *
          generalize (sched bs i).getD (i - 7) 0 = y7 at *
          generalize (sched bs i).getD (i - 2) 0 = y2 at *
          have HV1 : Hid (bits .xor .u32 (bits .xor .u32 (wv (rotr y15 7)) (wv (rotr y15 18))) (wv y15 / 8) = wv (sig0 y15)) := Lib.hid (by
            rw [w_shr3, w_xor, w_xor]
            rfl)
          have HV2 : Hid (bits .xor .u32 (bits .xor .u32 (wv (rotr y2 17)) (wv (rotr y2 19))) (wv y2 / 1024) = wv (sig1 y2)) := Lib.hid (by
            rw [w_shr10, w_xor, w_xor]
            rfl)
          have hu15 := w_ge y15
          have hu2 := w_ge y2
          as_aux_lemma =>
            go_wp2_with fail
            refine wp_region_wildL [] 18 (by kernel_rfl) (by kernel_rfl) ?_
            simp only [List.take_succ_cons, List.take_nil]
            iterate 4 (refine wildL_val (by decide) (by kernel_rfl) rfl ?_; intro K hK; go_big_quiet_op; go_big_quiet_on)
            refine wildL_call (by decide) (by kernel_rfl) (by kernel_rfl) ?_
            apply Exists.intro
            refine And.intro ?_ ?_
            focus
              intro x K hK
              go_big_quiet_op
              go_big_quiet_call (exact call_back (right_7 _ _))
              rfl
            iterate 4 (refine wildL_val (by decide) (by kernel_rfl) rfl ?_; intro K hK; go_big_quiet_op; go_big_quiet_on)
            refine wildL_call (by decide) (by kernel_rfl) (by kernel_rfl) ?_
            apply Exists.intro
            refine And.intro ?_ ?_
            focus
              intro x K hK
              go_big_quiet_op
              go_big_quiet_call (exact call_back (right_18 _ _))
              rfl
            iterate 8 (refine wildL_val (by decide) (by kernel_rfl) rfl ?_; intro K hK; go_big_quiet_op; go_big_quiet_on)
            refine wildL_nil ?_
            simp only [List.drop_succ_cons, List.drop_nil]
            rintro ⟨z, hz⟩
            change wpList _ _ _ _ _ z
            rw [HV1.out]
            have d2 : ∀ x : Past z, x.w.cell? ⟨w.heap.size + 1, i - 2, none⟩ = some (.int .u32 (wv y2)) := fun x => c2 ⟨x.w, Below.step hz x.h⟩
            have d7 : ∀ x : Past z, x.w.cell? ⟨w.heap.size + 1, i - 7, none⟩ = some (.int .u32 (wv y7)) := fun x => c7 ⟨x.w, Below.step hz x.h⟩
            have d16 : ∀ x : Past z, x.w.cell? ⟨w.heap.size + 1, i - 16, none⟩ = some (.int .u32 (wv y16)) := fun x => c16 ⟨x.w, Below.step hz x.h⟩
            have K2 := Lib.hid (rowAt_past hz K0.out)
            have K3 := Lib.hid (rowAt_past hz K1.out)
            have b2 := below_past b1 hz b1.size
            clear c15 c2 c16 c7 K0 K1 b1 hz HV1
            go_wp2_with fail
            refine wp_region_wildL [] 18 (by kernel_rfl) (by kernel_rfl) ?_
            simp only [List.take_succ_cons, List.take_nil]
            iterate 4 (refine wildL_val (by decide) (by kernel_rfl) rfl ?_; intro K hK; go_big_quiet_op; go_big_quiet_on)
            refine wildL_call (by decide) (by kernel_rfl) (by kernel_rfl) ?_
            apply Exists.intro
            refine And.intro ?_ ?_
            focus
              intro x K hK
              go_big_quiet_op
              go_big_quiet_call (exact call_back (right_17 _ _))
              rfl
            iterate 4 (refine wildL_val (by decide) (by kernel_rfl) rfl ?_; intro K hK; go_big_quiet_op; go_big_quiet_on)
            refine wildL_call (by decide) (by kernel_rfl) (by kernel_rfl) ?_
            apply Exists.intro
            refine And.intro ?_ ?_
            focus
              intro x K hK
              go_big_quiet_op
              go_big_quiet_call (exact call_back (right_19 _ _))
              rfl
            iterate 8 (refine wildL_val (by decide) (by kernel_rfl) rfl ?_; intro K hK; go_big_quiet_op; go_big_quiet_on)
            refine wildL_nil ?_
            simp only [List.drop_succ_cons, List.drop_nil]
            rintro ⟨y, hy⟩
            change wpList _ _ _ _ _ y
            rw [HV2.out]
            have e7 : ∀ x : Past y, x.w.cell? ⟨w.heap.size + 1, i - 7, none⟩ = some (.int .u32 (wv y7)) := fun x => d7 ⟨x.w, Below.step hy x.h⟩
            have e16 : ∀ x : Past y, x.w.cell? ⟨w.heap.size + 1, i - 16, none⟩ = some (.int .u32 (wv y16)) := fun x => d16 ⟨x.w, Below.step hy x.h⟩
            have K4 := Lib.hid (rowAt_past hy K2.out)
            have K5 := Lib.hid (rowAt_past hy K3.out)
            have b3 := below_past b2 hy b2.size
            have hs0 := w_ge (sig0 y15)
            have hs1 := w_ge (sig1 y2)
            have HVN : Hid ((wv y16 + wv (sig0 y15) + wv y7 + wv (sig1 y2)) % 4294967296 = wv (nextW (sched bs i) i)) := Lib.hid (by rw [HNW.out, w_add4])
            clear d2 d7 d16 K2 K3 b2 hy HV2 HNW
            go_wp2_with fail
            refine wp_region_wildL [] 15 (by kernel_rfl) (by kernel_rfl) ?_
            simp only [List.take_succ_cons, List.take_zero]
            iterate 15 (refine wildL_val (by decide) (by kernel_rfl) rfl ?_; intro K hK; go_big_quiet_op; go_big_quiet_on)
            refine wildL_nil ?_
            simp only [List.drop_succ_cons, List.drop_zero]
            rintro ⟨x, hx⟩
            change wpList _ _ _ _ _ x
            have K6 := Lib.hid (rowAt_past hx K4.out)
            have K7 := Lib.hid (rowAt_past hx K5.out)
            have b4 := below_past b3 hx b3.size
            have e0 : x.cell? ⟨w.heap.size + 1, i, none⟩ = some (.int .u32 (wv ((schedK bs i).get i))) := by rw [cell_of_rowAt K7.out, get_cellsK _ _ (by omega)]
            have e1 := frozen_of_rowAt K7.out i
            clear e7 e16 K4 K5 b3 hx
            go_wp2_with fail
            rw [HVN.out]
            have p1 : rowAt (x.setCell ⟨w.heap.size + 1, i, none⟩ (.int .u32 (wv (nextW (sched bs i) i)))) (w.heap.size + 1) = some (cellsK (schedK bs (i + 1))) := by
              rw [rowAt_setCell_same K7.out, set_cellsK, HS.out]
            have p0 : rowAt (x.setCell ⟨w.heap.size + 1, i, none⟩ (.int .u32 (wv (nextW (sched bs i) i)))) w.heap.size = some (cellsK zeroK) := by
              rw [rowAt_setCell_other _ _ _ _ (by simp), K6.out]
            have b5 : Below w.heap.size w (x.setCell ⟨w.heap.size + 1, i, none⟩ (.int .u32 (wv (nextW (sched bs i) i)))) := b4.setCell (by simp) _
            exact ⟨⟨i + 1, by omega, by omega, by go_num, p0, p1, b5⟩, by simp [intOf]; omega⟩
        · obtain rfl : i = 64 := by omega
          rw [show ((64 : Nat) : Int) = 64 from rfl]
          have b2 := b1
          go_wp2_with fail
          exact row_ret_w64 rfl rfl rfl (rowAt_setRow_same k0 _) ⟨rfl, Below.setRow b2 (Nat.le_refl _) _⟩
end Go.Proofs.YtmabigcolabbmaaGreatDoor
namespace Go.Proofs.YtmabigcolabbmaaGreatDoor
open Go Go.RowKit

theorem aw3_0 : (shaLab [97, 98, 99]).get 0 = 186 := by
  unfold Lab.get; rw [shaLab_l, sha_abc]; rfl
theorem aw3_1 : (shaLab [97, 98, 99]).get 1 = 120 := by
  unfold Lab.get; rw [shaLab_l, sha_abc]; rfl
theorem aw3_31 : (shaLab [97, 98, 99]).get 31 = 173 := by
  unfold Lab.get; rw [shaLab_l, sha_abc]; rfl
end Go.Proofs.YtmabigcolabbmaaGreatDoor
namespace Go.Proofs.YtmabigcolabbmaaGreatDoor
open Go Go.RowKit

/-- A key filled up to a block. -/
def fillB (key : List UInt8) : Blk := ⟨(key ++ List.replicate 64 0).take 64, by rw [List.length_take, List.length_append, List.length_replicate]; omega⟩
/-- Its first i bytes turned. -/
def turnB (b : Blk) (x : UInt8) (i : Nat) : Blk := ⟨(b.l.take i).map (· ^^^ x) ++ b.l.drop i, by rw [List.length_append, List.length_map, List.length_take, List.length_drop, b.h]; omega⟩
/-- What a key is turned to. -/
def keyL (key : List UInt8) (x : UInt8) : List UInt8 := (fillB key).l.map (· ^^^ x)
theorem keyL_len (key : List UInt8) (x : UInt8) : (keyL key x).length = 64 := by rw [keyL, List.length_map, (fillB key).h]
theorem turnB_0 (b : Blk) (x : UInt8) : turnB b x 0 = b := by
  obtain ⟨l, h⟩ := b
  rfl
theorem turnB_64 (b : Blk) (x : UInt8) : (turnB b x 64).l = b.l.map (· ^^^ x) := by
  unfold turnB
  simp only
  rw [List.take_of_length_le (Nat.le_of_eq b.h), List.drop_eq_nil_of_le (Nat.le_of_eq b.h), List.append_nil]
theorem turnB_get (b : Blk) (x : UInt8) (i : Nat) (h : i < 64) : (turnB b x i).get i = b.get i := by
  unfold turnB Blk.get
  have hb := b.h
  simp only
  rw [List.getD_eq_getElem?_getD, List.getD_eq_getElem?_getD, List.getElem?_append_right (by rw [List.length_map, List.length_take]; omega), List.getElem?_drop, List.length_map, List.length_take]
  congr 2
  omega
theorem turnB_set (b : Blk) (x : UInt8) (i : Nat) (h : i < 64) : (cellsB (turnB b x i)).setIfInBounds i (.int .u8 ((b.get i ^^^ x).toNat : Int)) = cellsB (turnB b x (i + 1)) := by
  have hb := b.h
  have hg : b.l[i]? = some (b.get i) := by
    unfold Blk.get
    rw [List.getD_eq_getElem?_getD, List.getElem?_eq_getElem (by omega)]
    rfl
  simp only [cellsB, bcells, turnB]
  rw [List.setIfInBounds_toArray]
  congr 1
  rw [show Value.int .u8 ((b.get i ^^^ x).toNat : Int) = Extern.Stop.cell (b.get i ^^^ x) from rfl, ← List.map_set]
  congr 1
  rw [List.set_append_right _ _ (by rw [List.length_map, List.length_take]; omega), List.length_map, List.length_take, show i - min i b.l.length = 0 by omega]
  rw [show b.l.drop i = b.get i :: b.l.drop (i + 1) from by
    rw [List.drop_eq_getElem_cons (by omega)]
    congr 1
    rw [List.getElem?_eq_getElem (by omega)] at hg
    exact Option.some.inj hg]
  rw [List.set_cons_zero, List.take_add_one, hg]
  simp
theorem get_cellsB (a : Blk) (i : Nat) (h : i < 64) : (cellsB a)[i]? = some (.int .u8 ((a.get i).toNat : Int)) := by
  have := getD_some (d := 0) (show i < a.l.length by rw [a.h]; exact h)
  simp only [cellsB, bcells, List.getElem?_toArray]
  rw [List.getElem?_map, this]
  rfl
theorem splice_fill (t : List UInt8) (h : t.length ≤ 64) : splice (cellsB zeroB) 0 (t.map Extern.Stop.cell) = cellsB (fillB t) := by
  simp only [splice, cellsB, bcells, zeroB, fillB, List.toList_toArray, List.take_zero, List.nil_append, List.length_map, Nat.zero_add]
  congr 1
  rw [← List.map_drop, ← List.map_append]
  congr 1
  rw [List.drop_replicate, List.take_append, List.take_of_length_le h, List.take_replicate]
  congr 2
  omega
theorem copy_key (w : World) (ty : TypeId) (b : Nat) (t : List UInt8) (h : rowAt w b = some (cellsB zeroB)) (hlen : t.length ≤ 64) :
    (Builtin.copy_ #[105, 9] ty #[.slice (some ⟨b, 0, none⟩) 64 64, .string (stx t)]).run Tryz.prog w = .ok (goInt t.length) (w.setRow b (cellsB (fillB t))) := by
  have hsz : (sizeOf 5).run Tryz.prog w = .ok 1 w := by
    have : (Tryz.prog.info? 5).map (·.size) = some 1 := by kernel_rfl
    cases hq : Tryz.prog.info? 5 with
    | none => simp [hq] at this
    | some i => simp [sizeOf, typeInfo, hq] at this ⊢; exact this
  have hmin : (stx t).size.min 64 = t.length := by
    rw [stx_size]
    exact Nat.min_eq_left hlen
  have hext : ((stx t).extract 0 t.length).data.map (fun b => Value.int .u8 b.toNat) = (t.map Extern.Stop.cell).toArray := by
    rw [show (stx t).extract 0 t.length = stx t from by have := stx_extract t 0 t.length; rwa [List.drop_zero, List.take_of_length_le (Nat.le_refl _)] at this]
    simp only [List.map_toArray]
    rfl
  have hst := run_storeCells_cells (P := Tryz.prog) b 0 (t.map Extern.Stop.cell) 0 w (fun j hj => by rw [cell_of_rowAt h]; simp; simp at hj; omega) (fun j hj => frozen_of_rowAt h _) (fun v hv => by
    obtain ⟨x, _, rfl⟩ := List.mem_map.1 hv
    rfl)
  rw [Nat.add_zero, setCells_eq_setRow b _ 0 w _ h (by simp; omega), splice_fill _ hlen] at hst
  simp only [Builtin.copy_, Sem.run_bind, run_underlying Tryz.underlying105, Result.andThen_ok, Builtin.lenOf, Sem.run_pure, hmin, hsz, Builtin.firstCells, hext, hst, List.getElem?_toArray, List.getElem?_cons_zero, List.getElem?_cons_succ]
theorem conv_blk (x : Blk) (w : World) (b : Nat) (h : rowAt w b = some (cellsB x)) : (convert 105 9 (.slice (some ⟨b, 0, none⟩) 64 64)).run Tryz.prog w = .ok (.string (stx x.l)) w := by
  have hl := x.h
  have q := run_convert_bytes_back (P := Tryz.prog) w 105 9 5 ⟨b, 0, none⟩ 64 x.l Tryz.underlying105 Tryz.underlying5 Tryz.underlying9 ?_
  · rw [hl] at q
    exact q
  intro j hj
  rw [show (⟨b, 0, none⟩ : Addr).add j = ⟨b, j, none⟩ by simp [Addr.add]; exact fun e => e.symm, cell_of_rowAt h]
  simp only [cellsB, bcells, List.getElem?_toArray]
  rw [List.getElem?_map, List.getElem?_eq_getElem hj]
  rfl
theorem conv_lab (x : Lab) (w : World) (b : Nat) (h : rowAt w b = some (cellsL x)) : (convert 105 9 (.slice (some ⟨b, 0, none⟩) 32 32)).run Tryz.prog w = .ok (.string (stx x.l)) w := by
  have hl := x.h
  have q := run_convert_bytes_back (P := Tryz.prog) w 105 9 5 ⟨b, 0, none⟩ 32 x.l Tryz.underlying105 Tryz.underlying5 Tryz.underlying9 ?_
  · rw [hl] at q
    exact q
  intro j hj
  rw [show (⟨b, 0, none⟩ : Addr).add j = ⟨b, j, none⟩ by simp [Addr.add]; exact fun e => e.symm, cell_of_rowAt h]
  simp only [cellsL, List.getElem?_toArray]
  rw [List.getElem?_map, List.getElem?_eq_getElem hj]
  rfl
theorem xor_u8 (a b : UInt8) : bits .xor .u8 (a.toNat : Int) (b.toNat : Int) = ((a ^^^ b).toNat : Int) := by
  rw [u8_xor_nat _ _ a.toNat_lt b.toNat_lt, UInt8.toNat_xor]

/-- A sum by a key. -/
def macK (key : List UInt8) : List UInt8 := if 64 < key.length then shaL key else key
def macL (key t : List UInt8) : Lab := shaLab (keyL (macK key) 92 ++ (shaLab (keyL (macK key) 54 ++ t)).l)
theorem macK_len (key : List UInt8) : (macK key).length ≤ 64 := by
  unfold macK
  split
  · rw [← shaLab_l, (shaLab key).h]; omega
  · omega
theorem macK_long (key : List UInt8) (h : 64 < key.length) : macK key = (shaLab key).l := by rw [macK, if_pos h, shaLab_l]
theorem macK_short (key : List UInt8) (h : ¬ 64 < key.length) : macK key = key := by rw [macK, if_neg h]
end Go.Proofs.YtmabigcolabbmaaGreatDoor
namespace Go.Proofs.YtmabigcolabbmaaGreatDoor
open Go Go.RowKit

/-- The constants of the rounds. -/
def stepsK : W64 := ⟨(List.range 64).map cubeT, by simp⟩
theorem stepsK_get (i : Nat) (h : i < 64) : stepsK.get i = cubeT i := by
  unfold W64.get stepsK
  rw [List.getD_eq_getElem?_getD, List.getElem?_map, List.getElem?_range h]
  rfl
theorem stepsK_cells : cellsK stepsK = #[.int .u32 1116352408, .int .u32 1899447441, .int .u32 3049323471, .int .u32 3921009573, .int .u32 961987163, .int .u32 1508970993, .int .u32 2453635748, .int .u32 2870763221, .int .u32 3624381080, .int .u32 310598401, .int .u32 607225278, .int .u32 1426881987, .int .u32 1925078388, .int .u32 2162078206, .int .u32 2614888103, .int .u32 3248222580, .int .u32 3835390401, .int .u32 4022224774, .int .u32 264347078, .int .u32 604807628, .int .u32 770255983, .int .u32 1249150122, .int .u32 1555081692, .int .u32 1996064986, .int .u32 2554220882, .int .u32 2821834349, .int .u32 2952996808, .int .u32 3210313671, .int .u32 3336571891, .int .u32 3584528711, .int .u32 113926993, .int .u32 338241895, .int .u32 666307205, .int .u32 773529912, .int .u32 1294757372, .int .u32 1396182291, .int .u32 1695183700, .int .u32 1986661051, .int .u32 2177026350, .int .u32 2456956037, .int .u32 2730485921, .int .u32 2820302411, .int .u32 3259730800, .int .u32 3345764771, .int .u32 3516065817, .int .u32 3600352804, .int .u32 4094571909, .int .u32 275423344, .int .u32 430227734, .int .u32 506948616, .int .u32 659060556, .int .u32 883997877, .int .u32 958139571, .int .u32 1322822218, .int .u32 1537002063, .int .u32 1747873779, .int .u32 1955562222, .int .u32 2024104815, .int .u32 2227730452, .int .u32 2361852424, .int .u32 2428436474, .int .u32 2756734187, .int .u32 3204031479, .int .u32 3329325298] := by kernel_rfl
@[go_sem] theorem build_steps (w : World) : (buildOf 103 #[(0, .int .u32 1116352408), (1, .int .u32 1899447441), (2, .int .u32 3049323471), (3, .int .u32 3921009573), (4, .int .u32 961987163), (5, .int .u32 1508970993), (6, .int .u32 2453635748), (7, .int .u32 2870763221), (8, .int .u32 3624381080), (9, .int .u32 310598401), (10, .int .u32 607225278), (11, .int .u32 1426881987), (12, .int .u32 1925078388), (13, .int .u32 2162078206), (14, .int .u32 2614888103), (15, .int .u32 3248222580), (16, .int .u32 3835390401), (17, .int .u32 4022224774), (18, .int .u32 264347078), (19, .int .u32 604807628), (20, .int .u32 770255983), (21, .int .u32 1249150122), (22, .int .u32 1555081692), (23, .int .u32 1996064986), (24, .int .u32 2554220882), (25, .int .u32 2821834349), (26, .int .u32 2952996808), (27, .int .u32 3210313671), (28, .int .u32 3336571891), (29, .int .u32 3584528711), (30, .int .u32 113926993), (31, .int .u32 338241895), (32, .int .u32 666307205), (33, .int .u32 773529912), (34, .int .u32 1294757372), (35, .int .u32 1396182291), (36, .int .u32 1695183700), (37, .int .u32 1986661051), (38, .int .u32 2177026350), (39, .int .u32 2456956037), (40, .int .u32 2730485921), (41, .int .u32 2820302411), (42, .int .u32 3259730800), (43, .int .u32 3345764771), (44, .int .u32 3516065817), (45, .int .u32 3600352804), (46, .int .u32 4094571909), (47, .int .u32 275423344), (48, .int .u32 430227734), (49, .int .u32 506948616), (50, .int .u32 659060556), (51, .int .u32 883997877), (52, .int .u32 958139571), (53, .int .u32 1322822218), (54, .int .u32 1537002063), (55, .int .u32 1747873779), (56, .int .u32 1955562222), (57, .int .u32 2024104815), (58, .int .u32 2227730452), (59, .int .u32 2361852424), (60, .int .u32 2428436474), (61, .int .u32 2756734187), (62, .int .u32 3204031479), (63, .int .u32 3329325298)]).run Tryz.prog w = .ok (.agg (cellsK stepsK)) w := by
  rw [stepsK_cells]
  kernel_rfl
theorem row_ret_w8 {ops : Func} {p : Tmp} {a : Act} {w : World} {b : Nat} {x : Ws} {Q : Ending → World → Prop} (h : ops.results = #[.cell p 101]) (hp : a.tmps.getD p undef = .pointer (some ⟨b, 0, none⟩)) (hd : a.defers = []) (hr : rowAt w b = some (cellsW x)) (hQ : Q (.returned (.agg (cellsW x))) w) : bodyPost Tryz.prog ops Q .ret a w :=
  bodyPost_ret (results_row h a.tmps w b _ _ hp hr Tryz.underlying101 rfl (by rw [size_cellsW]; kernel_rfl)) hd hQ
set_option maxRecDepth 100000 in
theorem r3Begin_any (w : World) : Calls Tryz.prog 59 #[] w fun e w' => e = .returned (.agg (cellsW ivW)) ∧ Below w.heap.size w w' := by
  go_enter Tryz.func59, Tryz.ntmps59
  go_wp2_with fail
  exact row_ret_w8 rfl rfl rfl (rowAt_alloc_at _ _ _ _ rfl) ⟨rfl, (Below.refl _ _).alloc (Nat.le_refl _) _⟩
set_option maxRecDepth 100000 in
theorem r3Steps_any (w : World) : Calls Tryz.prog 60 #[] w fun e w' => e = .returned (.agg (cellsK stepsK)) ∧ Below w.heap.size w w' := by
  go_enter Tryz.func60, Tryz.ntmps60
  go_wp2_with fail
  exact row_ret_w64 rfl rfl rfl (rowAt_alloc_at _ _ _ _ rfl) ⟨rfl, (Below.refl _ _).alloc (Nat.le_refl _) _⟩

theorem w_subnot (x : UInt32) : 4294967295 - wv x = wv (~~~x) := by
  have := x.toNat_lt
  unfold wv
  rw [UInt32.toNat_not]
  show (4294967295 : Int) - (x.toNat : Int) = (((4294967296 - 1 - x.toNat : Nat) : Nat) : Int)
  omega
theorem ch_or (e f g : UInt32) : (e &&& f) ||| (~~~e &&& g) = (e &&& f) ^^^ (~~~e &&& g) := by
  apply UInt32.toBitVec_inj.1
  apply BitVec.eq_of_getLsbD_eq
  intro i hi
  simp only [UInt32.toBitVec_or, UInt32.toBitVec_and, UInt32.toBitVec_not, UInt32.toBitVec_xor, BitVec.getLsbD_or, BitVec.getLsbD_and, BitVec.getLsbD_not, BitVec.getLsbD_xor, hi, decide_true, Bool.true_and]
  cases e.toBitVec.getLsbD i <;> cases f.toBitVec.getLsbD i <;> cases g.toBitVec.getLsbD i <;> rfl
theorem maj_or (a b c : UInt32) : (a &&& b) ||| (a &&& c) ||| (b &&& c) = (a &&& b) ^^^ (a &&& c) ^^^ (b &&& c) := by
  apply UInt32.toBitVec_inj.1
  apply BitVec.eq_of_getLsbD_eq
  intro i hi
  simp only [UInt32.toBitVec_or, UInt32.toBitVec_and, UInt32.toBitVec_xor, BitVec.getLsbD_or, BitVec.getLsbD_and, BitVec.getLsbD_xor]
  cases a.toBitVec.getLsbD i <;> cases b.toBitVec.getLsbD i <;> cases c.toBitVec.getLsbD i <;> rfl
def chW (e f g : UInt32) : UInt32 := (e &&& f) ^^^ (~~~e &&& g)
def majW (a b c : UInt32) : UInt32 := (a &&& b) ^^^ (a &&& c) ^^^ (b &&& c)
theorem vcells {w : World} {b : Nat} {T : Hs} (h : rowAt w b = some (cellsW (wsOf T))) : w.cell? ⟨b, 0, none⟩ = some (.int .u32 (wv T.a)) ∧ w.cell? ⟨b, 1, none⟩ = some (.int .u32 (wv T.b)) ∧ w.cell? ⟨b, 2, none⟩ = some (.int .u32 (wv T.c)) ∧ w.cell? ⟨b, 3, none⟩ = some (.int .u32 (wv T.d)) ∧ w.cell? ⟨b, 4, none⟩ = some (.int .u32 (wv T.e)) ∧ w.cell? ⟨b, 5, none⟩ = some (.int .u32 (wv T.f)) ∧ w.cell? ⟨b, 6, none⟩ = some (.int .u32 (wv T.g)) ∧ w.cell? ⟨b, 7, none⟩ = some (.int .u32 (wv T.h)) := by
  refine ⟨?_, ?_, ?_, ?_, ?_, ?_, ?_, ?_⟩ <;> rw [cell_of_rowAt h, get_cellsW _ _ (by decide)] <;> rfl
theorem But.cell {b : Nat} {w w1 : World} (h : But b w w1) {g i : Nat} {v : Value} (hc : w.cell? ⟨g, i, none⟩ = some v) (hne : g ≠ b) : w1.cell? ⟨g, i, none⟩ = some v := by
  rw [← hc]
  unfold World.cell?
  simp only
  rw [h.block g (by have := cellLt hc; exact this) hne]
theorem But.past {b : Nat} {w w1 w2 : World} (h : But b w w1) (k : Below w1.heap.size w1 w2) : But b w w2 := h.trans (But.of k)
theorem wsOf_get (T : Hs) : ∀ i, i < 8 → (wsOf T).get i = (wsOf T).l.getD i 0 := fun _ _ => rfl
end Go.Proofs.YtmabigcolabbmaaGreatDoor
namespace Go.Proofs.YtmabigcolabbmaaGreatDoor
open Go Go.RowKit

/-- A label's first i bytes. -/
def outI (s : Hs) (i : Nat) : Lab := ⟨((outH s).take i ++ List.replicate 32 0).take 32, by rw [List.length_take, List.length_append, List.length_replicate]; omega⟩
theorem But.but2 {b c : Nat} {w w1 w2 : World} (h : But b w w1) (k : But c w1 w2) (hc : w.heap.size ≤ c) : But b w w2 :=
  ⟨k.os.trans h.os, k.tape.trans h.tape, k.output.trans h.output, Nat.le_trans h.size k.size, fun i hi hb => (k.block i (Nat.lt_of_lt_of_le hi h.size) (by omega)).trans (h.block i hi hb)⟩
theorem outI_0 (s : Hs) : outI s 0 = zeroLab := rfl
theorem outI_32 (s : Hs) : outI s 32 = outK s 8 := rfl
theorem outI_set (s : Hs) (i : Nat) (h : i < 32) : (outI s i).set i ((outH s).getD i 0) = outI s (i + 1) := by
  obtain ⟨l, hl⟩ : ∃ l, outH s = l := ⟨_, rfl⟩
  have hlen : l.length = 32 := by rw [← hl]; rfl
  unfold outI Lab.set
  simp only [Lab.mk.injEq, hl]
  have hg : l[i]? = some (l.getD i 0) := getD_some (by omega)
  generalize l.getD i 0 = b at *
  apply List.ext_getElem?
  intro k
  simp only [List.getElem?_set, List.getElem?_take, List.length_take, List.length_append, List.length_replicate, List.getElem?_append, List.getElem?_replicate, hlen]
  by_cases h1 : i = k
  · subst h1
    rw [if_pos rfl, if_pos (by omega), if_pos h, if_pos (by omega), if_pos (by omega), hg]
  · rw [if_neg h1]
    by_cases h4 : k < 32
    · rw [if_pos h4, if_pos h4]
      by_cases h2 : k < i
      · rw [if_pos (by omega), if_pos (by omega), if_pos (by omega), if_pos (by omega)]
      · rw [if_neg (show ¬ k < min i 32 by omega), if_neg (show ¬ k < min (i + 1) 32 by omega), if_pos (show k - min i 32 < 32 by omega), if_pos (show k - min (i + 1) 32 < 32 by omega)]
    · rw [if_neg h4, if_neg h4]
theorem outH_byte (s : Hs) (q r : Nat) (hq : q < 8) (hr : r < 4) : (((outH s).getD (4 * q + r) 0).toNat : Int) = wv ((wsOf s).get q) / (2 ^ (24 - r * 8) : Nat) % 256 := by
  have hw := outH_word s q hq
  have e : (outH s).getD (4 * q + r) 0 = (oct ((wsOf s).get q)).getD r 0 := by
    rw [← hw, List.getD_eq_getElem?_getD, List.getD_eq_getElem?_getD, List.getElem?_take, if_pos hr, List.getElem?_drop]
  rw [e]
  generalize (wsOf s).get q = x
  have hx := x.toNat_lt
  unfold wv oct
  match r, hr with
  | 0, _ => show ((UInt8.ofNat (x.toNat / 16777216)).toNat : Int) = (x.toNat : Int) / 16777216 % 256; rw [UInt8.toNat_ofNat']; omega
  | 1, _ => show ((UInt8.ofNat (x.toNat / 65536)).toNat : Int) = (x.toNat : Int) / 65536 % 256; rw [UInt8.toNat_ofNat']; omega
  | 2, _ => show ((UInt8.ofNat (x.toNat / 256)).toNat : Int) = (x.toNat : Int) / 256 % 256; rw [UInt8.toNat_ofNat']; omega
  | 3, _ => show ((UInt8.ofNat x.toNat).toNat : Int) = (x.toNat : Int) / 1 % 256; rw [UInt8.toNat_ofNat']; omega

set_option maxRecDepth 100000 in
set_option maxHeartbeats 8000000 in
theorem r3Sum_any (s : ByteArray) (w : World) (hs : s.size ≤ 10000) : Calls Tryz.prog 37 #[.string s] w fun e w' => e = .returned (.agg (cellsL (shaLab s.data.toList))) ∧ Below w.heap.size w w' := by
  have b0 : Below w.heap.size w (w.alloc (.cells (cellsL zeroLab) 27)) := (Below.refl _ _).alloc (Nat.le_refl _) _
  have r0 := rowAt_alloc_at w (cellsL zeroLab) 27 _ rfl
  obtain ⟨P, hP⟩ : ∃ P, padded s.data.toList = P := ⟨_, rfl⟩
  have HPD := Lib.hid (fun w => Padded_any s w hs)
  obtain ⟨M, hM⟩ : ∃ M, P.length / 64 = M := ⟨_, rfl⟩
  have hPM : P.length = 64 * M := by have := padded_mod s.data.toList; rw [hP] at this; omega
  have hM2 : 64 * M ≤ 11000 := by
    have h1 := padL_len s.data.toList.length
    have h2 : P.length = s.data.toList.length + (padL s.data.toList.length).length := by rw [← hP, padded, List.length_append]
    have h3 : s.data.toList.length = s.size := rfl
    omega
  have HSL : Hid (shaLab s.data.toList = outK (pressAll M begH P) 8) := Lib.hid (by unfold shaLab; rw [hP, hM])
  rw [hP] at HPD
  have HPM := Lib.hid hPM
  clear hP hM hPM hs
  generalize shaLab s.data.toList = R at *
  go_enter Tryz.func37, Tryz.ntmps37
  go_wp2_with fail
  refine (r3Begin_any _).mono ?_
  rintro e w1 ⟨rfl, c1⟩
  have b1 := below_past b0 c1 b0.size
  have r1 := rowAt_past c1 r0
  go_wp2_with fail
  refine (r3Steps_any _).mono ?_
  rintro e w2 ⟨rfl, c2⟩
  have b2 := below_past b1 c2 b1.size
  have r2 := rowAt_past c2 r1
  have hz : w.heap.size < w2.heap.size := lt_of_rowAt r2
  have b3 := (b2.alloc b2.size (.cells (cellsW ivW) 101))
  have b4 := b3.alloc b3.size (.cells (cellsK stepsK) 103)
  have bx : Below w2.heap.size w2 ((w2.alloc (.cells (cellsW ivW) 101)).alloc (.cells (cellsK stepsK) 103)) := ((Below.refl _ _).alloc (Nat.le_refl _) _).alloc (by simp) _
  have r3 := rowAt_past bx r2
  have h3 : rowAt ((w2.alloc (.cells (cellsW ivW) 101)).alloc (.cells (cellsK stepsK) 103)) w2.heap.size = some (cellsW ivW) := rowAt_past ((Below.refl _ _).alloc (Nat.le_refl _) _) (rowAt_alloc_at _ _ _ _ rfl)
  have k3 : rowAt ((w2.alloc (.cells (cellsW ivW) 101)).alloc (.cells (cellsK stepsK) 103)) (w2.heap.size + 1) = some (cellsK stepsK) := rowAt_alloc_at _ _ _ _ (by simp)
  clear b0 b1 b2 b3 c1 c2 r0 r1 r2 bx
  go_wp2_with fail
  generalize ((w2.alloc (.cells (cellsW ivW) 101)).alloc (.cells (cellsK stepsK) 103)) = W0 at *
  generalize hHB : w2.heap.size = hB at *
  clear hHB
  refine (HPD.out _).mono ?_
  rintro e w3 ⟨v, rfl, ob, c3⟩
  have b5 := below_past b4 c3 b4.size
  have r4 := Lib.hid (rowAt_past c3 r3)
  have h4 := rowAt_past c3 h3
  have k4 := Lib.hid (rowAt_past c3 k3)
  have hb0 := lt_of_rowAt h3
  have hk0 := lt_of_rowAt k3
  obtain ⟨ao, cp, hv⟩ := ob.shape
  rw [List.length_map, HPM.out] at hv
  have OB : Hid (OwnV w3 W0.heap.size 5 v (P.map Extern.Stop.cell)) := Lib.hid ob
  subst hv
  have h5 : rowAt w3 hB = some (cellsW (wsOf (pressAll 0 begH P))) := h4
  clear b4 c3 r3 h3 k3 h4 ob HPD
  go_wp2_with fail
  go_loopw [6] (fun x wr => ∃ m : Nat, m ≤ M ∧ x = .int .i64 (64 * m : Nat) ∧ rowAt wr hB = some (cellsW (wsOf (pressAll m begH P))) ∧ But hB w3 wr) (fun x _ => (64 * M - intOf x).toNat)
  case atStart => exact ⟨0, Nat.zero_le _, rfl, h5, But.refl _ _⟩
  case round =>
    obtain ⟨m, hm, rfl, h6, k6⟩ := hrel
    clear h5
    by_cases hlt : m < M
    · have hlt' : decide (((64 * m : Nat) : Int) < ((64 * M : Nat) : Int)) = true := decide_eq_true (by omega)
      have b6 := k6.below b5 (Nat.le_of_lt hz) b5.size
      have HK6 := Lib.hid k6
      have H6 := Lib.hid h6
      have hcap : 64 * M ≤ cp := by
        rcases OB.out with ⟨h, _⟩ | ⟨g, cap, cur, fr, h1, _, _, _, h5, _⟩
        · simp only [Value.slice.injEq] at h; omega
        · simp only [Value.slice.injEq] at h1; rw [List.length_map, HPM.out] at h5; omega
      obtain ⟨g, hao, hbt⟩ : ∃ g, ao = some ⟨g, 0, none⟩ ∧ ∀ j, j < 64 * M → wr.cell? ⟨g, j, none⟩ = some (.int .u8 ((P.getD j 0).toNat : Int)) := by
        obtain ⟨g, cap, h1, h2, h3, h4⟩ := OB.out.cell (i := 0) (by rw [List.length_map, HPM.out]; omega)
        simp only [Value.slice.injEq] at h1
        have hge := (OB.out.lt g (by rw [h1.1]; rfl)).1
        refine ⟨g, h1.1, fun j hj => HK6.out.cell ?_ (by omega)⟩
        rw [h4 j (by rw [List.length_map, HPM.out]; exact hj), List.getElem?_map, getD_some (d := 0) (by rw [HPM.out]; exact hj)]
        rfl
      subst hao
      have HBT := Lib.hid hbt
      have q1 : ((64 * m : Nat) : Int) + 64 ≤ cp := by omega
      have q2 : ((64 * m : Nat) : Int) + 64 ≤ 11000 := by omega
      have q0 : (0 : Int) ≤ ((64 * m : Nat) : Int) := by omega
      clear h6 k6 hbt
      obtain ⟨bs, hbs⟩ : ∃ bs, (P.drop (64 * m)).take 64 = bs := ⟨_, rfl⟩
      have HW := Lib.hid (Words_any g (64 * m) (cp - 64 * m) bs wr (fun j hj => by
        rw [HBT.out (64 * m + j) (by omega), ← hbs, List.getD_eq_getElem?_getD, List.getD_eq_getElem?_getD, List.getElem?_take, if_pos hj, List.getElem?_drop]))
      have HPA : Hid (pressAll (m + 1) begH P = pressH (pressAll m begH P) bs) := Lib.hid (by rw [pressAll_succ, hbs])
      clear hbs HBT
      generalize pressAll m begH P = H at *
      go_wp2_with fail
      refine HW.out.mono ?_
      rintro e w4 ⟨rfl, c4⟩
      have h7 := rowAt_past c4 H6.out
      have K7 := Lib.hid (HK6.out.past c4)
      have k7 := Lib.hid ((HK6.out.past c4).row k4.out (by omega))
      have b7 := below_past b6 c4 b6.size
      have h8 : rowAt (w4.alloc (.cells (cellsK (schedK bs 64)) 103)) hB = some (cellsW (wsOf H)) := rowAt_past ((Below.refl _ _).alloc (Nat.le_refl _) _) h7
      have hB4 : hB < w4.heap.size := lt_of_rowAt h7
      have hs3 : w3.heap.size ≤ w4.heap.size := K7.out.size
      have bx : Below w4.heap.size w4 ((w4.alloc (.cells (cellsK (schedK bs 64)) 103)).alloc (.cells (cellsW (wsOf H)) 101)) := ((Below.refl _ _).alloc (Nat.le_refl _) _).alloc (by simp) _
      have s9 : rowAt ((w4.alloc (.cells (cellsK (schedK bs 64)) 103)).alloc (.cells (cellsW (wsOf H)) 101)) w4.heap.size = some (cellsK (schedK bs 64)) := rowAt_past ((Below.refl _ _).alloc (Nat.le_refl _) _) (rowAt_alloc_at _ _ _ _ rfl)
      have v9 : rowAt ((w4.alloc (.cells (cellsK (schedK bs 64)) 103)).alloc (.cells (cellsW (wsOf H)) 101)) (w4.heap.size + 1) = some (cellsW (wsOf H)) := rowAt_alloc_at _ _ _ _ (by simp)
      have h9 := rowAt_past bx h7
      have K9 := Lib.hid (K7.out.past bx)
      have k9 := Lib.hid (rowAt_past bx k7.out)
      clear HW c4 h7 K7 k7 HK6 H6 b6 q1 q2 q0 hcap bx
      go_wp2_with fail
      generalize ((w4.alloc (.cells (cellsK (schedK bs 64)) 103)).alloc (.cells (cellsW (wsOf H)) 101)) = W1 at *
      generalize hvB : w4.heap.size = sB at *
      clear hvB h8
      obtain ⟨F, hF⟩ : ∃ F : Nat → UInt32, F = fun i => (sched bs 64).getD i 0 := ⟨_, rfl⟩
      have HF := Lib.hid hF
      clear hF
      have V9 := Lib.hid v9
      go_loopw [9, 10, 11, 12, 13, 14] (fun x _ _ _ _ _ wr => ∃ i : Nat, i ≤ 64 ∧ x = .int .i64 i ∧ rowAt wr (sB + 1) = some (cellsW (wsOf (rounds F H i))) ∧ But (sB + 1) W1 wr) (fun x _ _ _ _ _ _ => (64 - intOf x).toNat)
      case atStart => exact ⟨0, by omega, rfl, V9.out, But.refl _ _⟩
      case round =>
        obtain ⟨w6, rfl⟩ : ∃ w6 : World, w6 = wr := ⟨_, rfl⟩
        obtain ⟨i, hi, rfl, vr, k6⟩ := hrel
        clear v9 V9
        by_cases hi64 : i < 64
        · have hi64' : (i : Int) < 64 := by omega
          have i0 : (0 : Int) ≤ i := by omega
          have kr := k6.row k9.out (by omega)
          have sr := k6.row s9 (by omega)
          have ck : ∀ x : Past w6, x.w.cell? ⟨hB + 1, i, none⟩ = some (.int .u32 (wv (cubeT i))) := fun x => by rw [cell_of_rowAt (rowAt_past x.h kr), get_cellsK _ _ hi64, stepsK_get _ hi64]
          have cs : ∀ x : Past w6, x.w.cell? ⟨sB, i, none⟩ = some (.int .u32 (wv (F i))) := fun x => by rw [cell_of_rowAt (rowAt_past x.h sr), get_cellsK _ _ hi64, schedK_get _ _ _ (Nat.le_refl _) hi64, HF.out]
          have HRD : Hid (rounds F H (i + 1) = round (rounds F H i) (cubeT i) (F i)) := Lib.hid rfl
          have VR := Lib.hid vr
          have K6 := Lib.hid k6
          clear vr k6 kr sr
          generalize rounds F H i = T at *
          generalize cubeT i = k at *
          generalize F i = x at *
          as_aux_lemma =>
            have v4 : ∀ x : Past w6, x.w.cell? ⟨sB + 1, 4, none⟩ = some (.int .u32 (wv T.e)) := fun x => (vcells (rowAt_past x.h VR.out)).2.2.2.2.1
            go_wp2_with fail
            refine wp_region_wildL [] 12 (by kernel_rfl) (by kernel_rfl) ?_
            simp only [List.take_succ_cons, List.take_nil]
            iterate 2 (refine wildL_val (by decide) (by kernel_rfl) rfl ?_; intro K hK; go_big_quiet_op; go_big_quiet_on)
            refine wildL_call (by decide) (by kernel_rfl) (by kernel_rfl) ?_
            apply Exists.intro
            refine And.intro ?_ ?_
            focus
              intro x K hK
              go_big_quiet_op
              go_big_quiet_call (exact call_back (right_6 _ _))
              rfl
            iterate 2 (refine wildL_val (by decide) (by kernel_rfl) rfl ?_; intro K hK; go_big_quiet_op; go_big_quiet_on)
            refine wildL_call (by decide) (by kernel_rfl) (by kernel_rfl) ?_
            apply Exists.intro
            refine And.intro ?_ ?_
            focus
              intro x K hK
              go_big_quiet_op
              go_big_quiet_call (exact call_back (right_11 _ _))
              rfl
            iterate 3 (refine wildL_val (by decide) (by kernel_rfl) rfl ?_; intro K hK; go_big_quiet_op; go_big_quiet_on)
            refine wildL_call (by decide) (by kernel_rfl) (by kernel_rfl) ?_
            apply Exists.intro
            refine And.intro ?_ ?_
            focus
              intro x K hK
              go_big_quiet_op
              go_big_quiet_call (exact call_back (right_25 _ _))
              rfl
            iterate 2 (refine wildL_val (by decide) (by kernel_rfl) rfl ?_; intro K hK; go_big_quiet_op; go_big_quiet_on)
            refine wildL_nil ?_
            simp only [List.drop_succ_cons, List.drop_nil]
            rintro ⟨z, hz⟩
            change wpList _ _ _ _ _ z
            rw [w_xor, w_xor, show rotr T.e 6 ^^^ rotr T.e 11 ^^^ rotr T.e 25 = sum1 T.e from rfl]
            have V1 := Lib.hid (rowAt_past hz VR.out)
            obtain ⟨_, _, _, _, f4, f5, f6, _⟩ := vcells V1.out
            have K1 := Lib.hid (K6.out.past hz)
            have ck1 : ∀ x : Past z, x.w.cell? ⟨hB + 1, i, none⟩ = some (.int .u32 (wv k)) := fun x => ck ⟨x.w, Below.step hz x.h⟩
            have cs1 : ∀ y : Past z, y.w.cell? ⟨sB, i, none⟩ = some (.int .u32 (wv x)) := fun y => cs ⟨y.w, Below.step hz y.h⟩
            have HCH : Hid (bits .or .u32 (bits .and .u32 (wv T.e) (wv T.f)) (bits .and .u32 ((4294967295 - wv T.e) % 4294967296) (wv T.g)) = wv (chW T.e T.f T.g)) := Lib.hid (by
              rw [w_subnot, Int.emod_eq_of_lt (w_ge _) (w_lt _), w_and, w_and, w_or, ch_or]
              rfl)
            have v7 : ∀ x : Past z, x.w.cell? ⟨sB + 1, 7, none⟩ = some (.int .u32 (wv T.h)) := fun x => (vcells (rowAt_past x.h V1.out)).2.2.2.2.2.2.2
            clear v4 VR K6 ck cs hz
            go_wp2_with fail
            rw [HCH.out]
            clear HCH f4 f5 f6
            refine wp_region_wildL [] 15 (by kernel_rfl) (by kernel_rfl) ?_
            simp only [List.take_succ_cons, List.take_nil]
            iterate 15 (refine wildL_val (by decide) (by kernel_rfl) rfl ?_; intro K hK; go_big_quiet_op; go_big_quiet_on)
            refine wildL_nil ?_
            simp only [List.drop_succ_cons, List.drop_nil]
            rintro ⟨z2, hz2⟩
            change wpList _ _ _ _ _ z2
            have V2 := Lib.hid (rowAt_past hz2 V1.out)
            have K2 := Lib.hid (K1.out.past hz2)
            have v0 : ∀ x : Past z2, x.w.cell? ⟨sB + 1, 0, none⟩ = some (.int .u32 (wv T.a)) := fun x => (vcells (rowAt_past x.h V2.out)).1
            have HP : Hid (((wv T.h + wv (sum1 T.e) + wv (chW T.e T.f T.g) + wv k) % 4294967296 + wv x) % 4294967296 = wv (roundP T k x)) := Lib.hid (by
              rw [w_add4, w_add2]
              rfl)
            clear ck1 cs1 v7 V1 K1 hz2
            rw [HP.out]
            clear HP
            go_wp2_with fail
            refine wp_region_wildL [] 12 (by kernel_rfl) (by kernel_rfl) ?_
            simp only [List.take_succ_cons, List.take_nil]
            iterate 2 (refine wildL_val (by decide) (by kernel_rfl) rfl ?_; intro K hK; go_big_quiet_op; go_big_quiet_on)
            refine wildL_call (by decide) (by kernel_rfl) (by kernel_rfl) ?_
            apply Exists.intro
            refine And.intro ?_ ?_
            focus
              intro x K hK
              go_big_quiet_op
              go_big_quiet_call (exact call_back (right_2 _ _))
              rfl
            iterate 2 (refine wildL_val (by decide) (by kernel_rfl) rfl ?_; intro K hK; go_big_quiet_op; go_big_quiet_on)
            refine wildL_call (by decide) (by kernel_rfl) (by kernel_rfl) ?_
            apply Exists.intro
            refine And.intro ?_ ?_
            focus
              intro x K hK
              go_big_quiet_op
              go_big_quiet_call (exact call_back (right_13 _ _))
              rfl
            iterate 3 (refine wildL_val (by decide) (by kernel_rfl) rfl ?_; intro K hK; go_big_quiet_op; go_big_quiet_on)
            refine wildL_call (by decide) (by kernel_rfl) (by kernel_rfl) ?_
            apply Exists.intro
            refine And.intro ?_ ?_
            focus
              intro x K hK
              go_big_quiet_op
              go_big_quiet_call (exact call_back (right_22 _ _))
              rfl
            iterate 2 (refine wildL_val (by decide) (by kernel_rfl) rfl ?_; intro K hK; go_big_quiet_op; go_big_quiet_on)
            refine wildL_nil ?_
            simp only [List.drop_succ_cons, List.drop_nil]
            rintro ⟨z3, hz3⟩
            change wpList _ _ _ _ _ z3
            rw [w_xor, w_xor, show rotr T.a 2 ^^^ rotr T.a 13 ^^^ rotr T.a 22 = sum0 T.a from rfl]
            have V3 := Lib.hid (rowAt_past hz3 V2.out)
            have K3 := Lib.hid (K2.out.past hz3)
            obtain ⟨f0, f1, f2, f3, f4, f5, f6, f7⟩ := vcells V3.out
            have hmj : bits .or .u32 (bits .or .u32 (bits .and .u32 (wv T.a) (wv T.b)) (bits .and .u32 (wv T.a) (wv T.c))) (bits .and .u32 (wv T.b) (wv T.c)) = wv (majW T.a T.b T.c) := by
              rw [w_and, w_and, w_and, w_or, w_or, maj_or]
              rfl
            have hA1 : (wv (roundP T k x) + wv (sum0 T.a) + wv (majW T.a T.b T.c)) % 4294967296 = wv (round T k x).a := by
              rw [show (round T k x).a = roundP T k x + sum0 T.a + majW T.a T.b T.c from (UInt32.add_assoc _ _ _).symm, ← w_add2, ← w_add2]
              omega
            have hA2 : ((wv (roundP T k x) + wv (sum0 T.a)) % 4294967296 + wv (majW T.a T.b T.c)) % 4294967296 = wv (round T k x).a := by
              rw [← hA1]
              omega
            have hD : (wv T.d + wv (roundP T k x)) % 4294967296 = wv (round T k x).e := w_add2 _ _
            have HWS : Hid (∀ h, cellsW ⟨[(round T k x).a, T.a, T.b, T.c, (round T k x).e, T.e, T.f, T.g], h⟩ = cellsW (wsOf (round T k x))) := Lib.hid fun _ => rfl
            clear v0 V2 K2 hz3
            have vr3 := V3.out
            generalize majW T.a T.b T.c = mj at *
            generalize sum0 T.a = s0 at *
            generalize roundP T k x = p at *
            generalize round T k x = RR at *
            go_wp2_with fail
            rw [HWS.out]
            exact ⟨⟨i + 1, hi64, by go_num, by rw [HRD.out]; exact rowAt_setRow_same V3.out _, K3.out.trans (But.setRow _ _ _)⟩, by simp [intOf]; omega⟩
        · obtain rfl : i = 64 := by omega
          rw [show ((64 : Nat) : Int) = 64 from rfl]
          have HE : Hid (addW (wsOf H) (wsOf (rounds F H 64)) 8 = wsOf (pressH H bs)) := Lib.hid (by
            have := addW_8 (wsOf H) bs
            rw [hsOf_wsOf, ← HF.out] at this
            exact this)
          generalize rounds F H 64 = E at *
          have h10 := Lib.hid (k6.row h9 (by omega))
          have vr10 := Lib.hid vr
          have K10 := Lib.hid (K9.out.but2 k6 (by omega))
          clear vr k6 h9 s9 k9 K9 HF
          as_aux_lemma =>
            go_wp2_with fail
            go_loopw [126, 15] (fun x _ wr => ∃ j : Nat, j ≤ 8 ∧ x = .int .i64 j ∧ rowAt wr hB = some (cellsW (addW (wsOf H) (wsOf E) j)) ∧ rowAt wr (sB + 1) = some (cellsW (wsOf E)) ∧ But hB w3 wr) (fun x _ _ => (8 - intOf x).toNat)
            case atStart => exact ⟨0, by omega, rfl, h10.out, vr10.out, K10.out⟩
            case round =>
              obtain ⟨j, hj, rfl, hr, vr, k7⟩ := hrel
              by_cases hj8 : j < 8
              · have hj8' : (j : Int) < 8 := by omega
                have cx : ∀ x : Past wr, x.w.cell? ⟨hB, j, none⟩ = some (.int .u32 (wv ((addW (wsOf H) (wsOf E) j).get j))) := fun x => by rw [cell_of_rowAt (rowAt_past x.h hr), get_cellsW _ _ hj8]
                have cv : ∀ x : Past wr, x.w.cell? ⟨sB + 1, j, none⟩ = some (.int .u32 (wv ((wsOf E).get j))) := fun x => by rw [cell_of_rowAt (rowAt_past x.h vr), get_cellsW _ _ hj8]
                have HSET : Hid ((cellsW (addW (wsOf H) (wsOf E) j)).setIfInBounds j (.int .u32 (wv ((addW (wsOf H) (wsOf E) j).get j + (wsOf E).get j))) = cellsW (addW (wsOf H) (wsOf E) (j + 1))) := Lib.hid (by
                  rw [addW]
                  simp [cellsW, wcells, Ws.set, List.map_set, wcell])
                have HRr := Lib.hid hr
                have VRr := Lib.hid vr
                have K7 := Lib.hid k7
                have HAD := Lib.hid (w_add2 ((addW (wsOf H) (wsOf E) j).get j) ((wsOf E).get j))
                clear hr vr k7
                generalize (addW (wsOf H) (wsOf E) j).get j = xa at *
                generalize (wsOf E).get j = xb at *
                as_aux_lemma =>
                  go_wp2_with fail
                  refine wp_region_wildL [] 8 (by kernel_rfl) (by kernel_rfl) ?_
                  simp only [List.take_succ_cons, List.take_zero]
                  iterate 8 (refine wildL_val (by decide) (by kernel_rfl) rfl ?_; intro K hK; go_big_quiet_op; go_big_quiet_on)
                  refine wildL_nil ?_
                  simp only [List.drop_succ_cons, List.drop_zero]
                  rintro ⟨z, hz⟩
                  change wpList _ _ _ _ _ z
                  have hrz := Lib.hid (rowAt_past hz HRr.out)
                  have vrz := rowAt_past hz VRr.out
                  have kz := K7.out.past hz
                  have c0 : z.cell? ⟨hB, j, none⟩ = some (.int .u32 (wv xa)) := cx ⟨z, hz⟩
                  have f0 := frozen_of_rowAt hrz.out j
                  have VZ := Lib.hid vrz
                  have KZ := Lib.hid kz
                  clear cx cv HRr VRr K7 hz vrz kz
                  go_wp2_with fail
                  rw [HAD.out]
                  exact ⟨⟨j + 1, hj8, by go_num, by rw [rowAt_setCell_same hrz.out, HSET.out], by rw [rowAt_setCell_other _ _ _ _ (by simp; omega)]; exact VZ.out, KZ.out.trans (But.setCell _ _ _ _)⟩, by simp [intOf]; omega⟩
              · obtain rfl : j = 8 := by omega
                rw [show ((8 : Nat) : Int) = 8 from rfl]
                rw [HE.out, ← HPA.out] at hr
                have hr2 := Lib.hid hr
                clear hr vr
                go_wp2_with fail
                exact ⟨⟨m + 1, hlt, congrArg (Value.int .i64) (by omega), hr2.out, k7⟩, by simp [intOf]; omega⟩
    · obtain rfl : m = M := by omega
      have hq : decide (((64 * m : Nat) : Int) < ((64 * m : Nat) : Int)) = false := decide_eq_false (by omega)
      have b6 := k6.below b5 (Nat.le_of_lt hz) b5.size
      have r6 := k6.row r4.out (Nat.ne_of_lt hz)
      have H6 := Lib.hid h6
      clear h6 k6
      obtain ⟨w5, rfl⟩ : ∃ w5 : World, w5 = wr := ⟨_, rfl⟩
      obtain ⟨S, hS⟩ : ∃ S, pressAll m begH P = S := ⟨_, rfl⟩
      rw [hS] at H6 HSL
      have z0 : rowAt (w5.alloc (.cells (cellsL zeroLab) 27)) w5.heap.size = some (cellsL (outI S 0)) := rowAt_alloc_at _ _ _ _ rfl
      have bz : Below w5.heap.size w5 (w5.alloc (.cells (cellsL zeroLab) 27)) := (Below.refl _ _).alloc (Nat.le_refl _) _
      clear hS
      go_wp2_with fail
      generalize w5.alloc (.cells (cellsL zeroLab) 27) = W1 at *
      go_loopw [139] (fun x wr => ∃ i : Nat, i ≤ 32 ∧ x = .int .i64 i ∧ rowAt wr w5.heap.size = some (cellsL (outI S i)) ∧ Below w5.heap.size w5 wr) (fun x _ => (32 - intOf x).toNat)
      case atStart => exact ⟨0, by omega, rfl, z0, bz⟩
      case round =>
        obtain ⟨i, hi, rfl, z2, b7⟩ := hrel
        clear z0 bz
        by_cases hi32 : i < 32
        · obtain ⟨q, r, hqr, hr⟩ : ∃ q r, i = 4 * q + r ∧ r < 4 := ⟨i / 4, i % 4, by omega, by omega⟩
          have hq8 : q < 8 := by omega
          have i0 : (0 : Int) ≤ i := by omega
          have i32 : (i : Int) < 32 := by omega
          have d4 : (i : Int) / 4 = (q : Int) := by omega
          have m4 : (i : Int) % 4 = (r : Int) := by omega
          have h7 := rowAt_past b7 H6.out
          have cq : wr.cell? ⟨hB, q, none⟩ = some (.int .u32 (wv ((wsOf S).get q))) := by rw [cell_of_rowAt h7, get_cellsW _ _ hq8]
          have ci : wr.cell? ⟨w5.heap.size, i, none⟩ = some (.int .u8 (((outI S i).get i).toNat : Int)) := by rw [cell_of_rowAt z2, get_cellsL _ _ hi32]
          have fi := frozen_of_rowAt z2 i
          have hby := outH_byte S q r hq8 hr
          rw [← hqr] at hby
          have HSET := Lib.hid (outI_set S i hi32)
          have hx0 := w_ge ((wsOf S).get q)
          have hx1 := w_lt ((wsOf S).get q)
          have Z2 := Lib.hid z2
          have b0' : (0 : Int) ≤ ((outH S).getD i 0).toNat := by omega
          have b1' : (((outH S).getD i 0).toNat : Int) < 256 := by have := ((outH S).getD i 0).toNat_lt; omega
          have hsc := set_cellsL (outI S i) i (((outH S).getD i 0).toNat : Int) b0' b1'
          rw [show UInt8.ofNat (((outH S).getD i 0).toNat : Int).toNat = (outH S).getD i 0 from by simp, HSET.out] at hsc
          have HSC := Lib.hid hsc
          generalize (outH S).getD i 0 = bb at *
          generalize wv ((wsOf S).get q) = xq at *
          generalize ((outI S i).get i).toNat = old at *
          have HQ1 : Hid (rowAt (wr.setCell ⟨w5.heap.size, i, none⟩ (.int .u8 (bb.toNat : Int))) w5.heap.size = some (cellsL (outI S (i + 1)))) := Lib.hid (by rw [rowAt_setCell_same Z2.out, HSC.out])
          have HB7 : Hid (Below w5.heap.size w5 (wr.setCell ⟨w5.heap.size, i, none⟩ (.int .u8 (bb.toNat : Int)))) := Lib.hid (b7.setCell (Nat.le_refl _) _)
          have hiq : (i : Int) = 4 * q + r := by omega
          have HIQ := Lib.hid hiq
          clear z2 hsc h7 b7 hiq hqr b0' b1'
          rcases (by omega : r = 0 ∨ r = 1 ∨ r = 2 ∨ r = 3) with rfl | rfl | rfl | rfl
          · rw [show ((2 ^ (24 - 0 * 8) : Nat) : Int) = 16777216 from rfl] at hby
            rw [show ((0 : Nat) : Int) = 0 from rfl] at m4
            have HBYT := Lib.hid hby
            clear hby
            go_wp2_with fail
            rw [show xq / 16777216 = (bb.toNat : Int) from by have := HBYT.out; omega]
            exact ⟨⟨i + 1, hi32, by go_num, HQ1.out, HB7.out⟩, by simp [intOf]; omega⟩
          · rw [show ((2 ^ (24 - 1 * 8) : Nat) : Int) = 65536 from rfl] at hby
            rw [show ((1 : Nat) : Int) = 1 from rfl] at m4
            have HBYT := Lib.hid hby
            clear hby
            go_wp2_with fail
            rw [show xq / 65536 % 256 = (bb.toNat : Int) from by have := HBYT.out; omega]
            exact ⟨⟨i + 1, hi32, by go_num, HQ1.out, HB7.out⟩, by simp [intOf]; omega⟩
          · rw [show ((2 ^ (24 - 2 * 8) : Nat) : Int) = 256 from rfl] at hby
            rw [show ((2 : Nat) : Int) = 2 from rfl] at m4
            have HBYT := Lib.hid hby
            clear hby
            go_wp2_with fail
            rw [show xq / 256 % 256 = (bb.toNat : Int) from by have := HBYT.out; omega]
            exact ⟨⟨i + 1, hi32, by go_num, HQ1.out, HB7.out⟩, by simp [intOf]; omega⟩
          · rw [show ((2 ^ (24 - 3 * 8) : Nat) : Int) = 1 from rfl] at hby
            rw [show ((3 : Nat) : Int) = 3 from rfl] at m4
            have HBYT := Lib.hid hby
            clear hby
            go_wp2_with fail
            rw [show xq % 256 = (bb.toNat : Int) from by have := HBYT.out; omega]
            exact ⟨⟨i + 1, hi32, by go_num, HQ1.out, HB7.out⟩, by simp [intOf]; omega⟩
        · obtain rfl : i = 32 := by omega
          rw [show ((32 : Nat) : Int) = 32 from rfl]
          rw [outI_32] at z2
          have r7 := rowAt_past b7 r6
          have b8 := below_past b6 b7 b6.size
          clear b7 r6 H6
          go_wp2_with fail
          exact row_ret_labS rfl rfl rfl (rowAt_setRow_same r7 _) ⟨by rw [HSL.out], Below.setRow b8 (Nat.le_refl _) _⟩
end Go.Proofs.YtmabigcolabbmaaGreatDoor
namespace Go.Proofs.YtmabigcolabbmaaGreatDoor
open Go Go.RowKit

def overR (x y : Itm) : Bool := decide (x.n ≤ y.n) && decide (x.n ≤ (common x.b y.b : Int))
set_option maxRecDepth 100000 in
set_option maxHeartbeats 1000000 in
theorem r16over_any (x y : Itm) (w : World) : Calls Tryz.prog 31 #[.agg (cellsI x), .agg (cellsI y)] w fun e w' => e = .returned (.bool (overR x y)) ∧ Below w.heap.size w w' := by
  have b0 : Below w.heap.size w ((w.alloc (.cells (cellsI x) 53)).alloc (.cells (cellsI y) 53)) := ((Below.refl _ _).alloc (Nat.le_refl _) _).alloc (by simp only [World.size_alloc]; omega) _
  have r0 : rowAt ((w.alloc (.cells (cellsI x) 53)).alloc (.cells (cellsI y) 53)) w.heap.size = some (cellsI x) := (rowAt_alloc_past _ _ _ (by simp only [World.size_alloc]; omega)).trans (rowAt_alloc_at _ _ _ _ rfl)
  have r1 : rowAt ((w.alloc (.cells (cellsI x) 53)).alloc (.cells (cellsI y) 53)) (w.heap.size + 1) = some (cellsI y) := rowAt_alloc_at _ _ _ _ (by simp only [World.size_alloc])
  have HCO := Lib.hid (fun w => rCommon_any x.b y.b w)
  have gx := get_I0 x
  have gy := get_I0 y
  unfold overR
  obtain ⟨n, hn⟩ : ∃ n, x.n = n := ⟨_, rfl⟩
  obtain ⟨m, hm⟩ : ∃ m, y.n = m := ⟨_, rfl⟩
  rw [hn] at gx ⊢
  rw [hm] at gy ⊢
  clear hn hm
  have p1 := fun z : Past ((w.alloc (.cells (cellsI x) 53)).alloc (.cells (cellsI y) 53)) => rowAt_past z.h r0
  have p2 := fun z : Past ((w.alloc (.cells (cellsI x) 53)).alloc (.cells (cellsI y) 53)) => rowAt_past z.h r1
  have k1 := fun z : Past ((w.alloc (.cells (cellsI x) 53)).alloc (.cells (cellsI y) 53)) => (cell_of_rowAt (rowAt_past z.h r0) 0).trans gx
  have k2 := fun z : Past ((w.alloc (.cells (cellsI x) 53)).alloc (.cells (cellsI y) 53)) => (cell_of_rowAt (rowAt_past z.h r1) 0).trans gy
  clear gx gy r0 r1
  generalize common x.b y.b = c at *
  by_cases h1 : n ≤ m
  · have h1' : decide (n ≤ m) = true := decide_eq_true h1
    go_enter Tryz.func31, Tryz.ntmps31
    go_wp2_with fail
    generalize (w.alloc (.cells (cellsI x) 53)).alloc (.cells (cellsI y) 53) = W at *
    refine wp_region_past (by kernel_rfl) (by kernel_rfl) ?_
    repeat (go_big_quiet_step (first | (go_at_call 53; exact Past.call (HCO.out _))))
    refine wpQuiet_nil ?_
    intro w2 hw2
    obtain ⟨⟨wn, hn⟩, rfl⟩ := hw2
    try dsimp only
    have B2 := below_past b0 hn b0.size
    clear hn p1 p2 k1 k2 HCO b0
    go_wp2
    go_ret
    exact ⟨by first | rfl | (rw [h1']; rfl), B2⟩
  · have h1' : decide (n ≤ m) = false := decide_eq_false h1
    go_enter Tryz.func31, Tryz.ntmps31
    go_wp2_with fail
    generalize (w.alloc (.cells (cellsI x) 53)).alloc (.cells (cellsI y) 53) = W at *
    refine wp_region_past (by kernel_rfl) (by kernel_rfl) ?_
    repeat (go_big_quiet_step (first | (go_at_call 53; exact Past.call (HCO.out _))))
    refine wpQuiet_nil ?_
    intro w2 hw2
    obtain ⟨⟨wn, hn⟩, rfl⟩ := hw2
    try dsimp only
    have B2 := below_past b0 hn b0.size
    clear hn p1 p2 k1 k2 HCO b0
    go_wp2
    go_ret
    exact ⟨by first | rfl | (rw [h1']; rfl), B2⟩
theorem leafB_len (x : Lf) : (leafB x).length ≤ 10000 := by
  unfold leafB leafT joinL
  have h1 := x.a.h
  have h2 := x.v.h
  have h3 := eightL_len x.e
  simp [textL, oct]
  omega
theorem innerB_len (x y : Itm) : (innerB x y).length ≤ 10000 := by
  unfold innerB innerT joinL
  have h1 := itemT_len x
  have h2 := itemT_len y
  simp [textL, oct]
  omega
set_option maxRecDepth 100000 in
set_option maxHeartbeats 1000000 in
theorem r16Leaf_any (x : Lf) (w : World) : Calls Tryz.prog 25 #[.agg (cellsF x)] w fun e w' => e = .returned (.agg (cellsI (leafI x))) ∧ Below w.heap.size w w' := by
  have b0 : Below w.heap.size w ((w.alloc (.cells (cellsF x) 55)).alloc (.cells (cellsI zeroItm) 53)) := ((Below.refl _ _).alloc (Nat.le_refl _) _).alloc (by simp only [World.size_alloc]; omega) _
  have r0 : rowAt ((w.alloc (.cells (cellsF x) 55)).alloc (.cells (cellsI zeroItm) 53)) w.heap.size = some (cellsF x) := (rowAt_alloc_past _ _ _ (by simp only [World.size_alloc]; omega)).trans (rowAt_alloc_at _ _ _ _ rfl)
  have r1 : rowAt ((w.alloc (.cells (cellsF x) 55)).alloc (.cells (cellsI zeroItm) 53)) (w.heap.size + 1) = some (cellsI zeroItm) := rowAt_alloc_at _ _ _ _ (by simp only [World.size_alloc])
  have HL := Lib.hid (fun w => r15LeafBytes_any x w)
  have HS := Lib.hid (fun w => r3Sum_any (stx (leafB x)) w (by rw [stx_size]; exact leafB_len x))
  have hd : (stx (leafB x)).data.toList = leafB x := by simp
  rw [hd] at HS
  have fa := fun y : Past ((w.alloc (.cells (cellsF x) 55)).alloc (.cells (cellsI zeroItm) 53)) => rowAt_past y.h r0
  have c1 := fun y : Past ((w.alloc (.cells (cellsF x) 55)).alloc (.cells (cellsI zeroItm) 53)) => (cell_of_rowAt (rowAt_past y.h r0) 64).trans (get_F64 x)
  unfold leafI
  rw [cut_256 x.a 256 (Nat.le_refl _)]
  generalize shaLab (leafB x) = J at *
  obtain ⟨m, hm⟩ : ∃ m, x.e = m := ⟨_, rfl⟩
  rw [hm] at c1 ⊢
  generalize stx (leafB x) = SB at *
  clear hd hm
  go_enter Tryz.func25, Tryz.ntmps25
  go_wp2_with fail
  generalize (w.alloc (.cells (cellsF x) 55)).alloc (.cells (cellsI zeroItm) 53) = W at *
  refine wp_region_tok [] 8 (fun _ _ _ => True) (by kernel_rfl) (by kernel_rfl) (by intro i hi; cases hi) ?_
  intro τ hτ
  clear hτ
  simp only [List.take_succ_cons, List.take_zero]
  iterate 3 (refine tokL_val (by decide) (by kernel_rfl) rfl ?_; intro K hK; go_big_quiet_op; go_big_quiet_on)
  refine tokL_call (by decide) (by kernel_rfl) (by kernel_rfl) ?_
  apply Exists.intro
  refine And.intro ?_ ?_
  focus
    intro x hg
    unfold Oper.quietAt
    go_simp
    (exact call_yields (HL.out _))
  simp only [Act.put, List.setIfInBounds_toArray, List.set_cons_succ, List.set_cons_zero]
  refine tokL_call (by decide) (by kernel_rfl) (by kernel_rfl) ?_
  apply Exists.intro
  refine And.intro ?_ ?_
  focus
    intro x hg
    unfold Oper.quietAt
    go_simp
    (exact call_yields (HS.out _))
  simp only [Act.put, List.setIfInBounds_toArray, List.set_cons_succ, List.set_cons_zero]
  iterate 3 (refine tokL_val (by decide) (by kernel_rfl) rfl ?_; intro K hK; go_big_quiet_op; go_big_quiet_on)
  refine tokL_nil ?_
  simp only [List.drop_succ_cons, List.drop_zero]
  intro z hz
  have b3 := below_past b0 hz.1 b0.size
  have r3 := rowAt_past hz.1 r1
  clear hz b0 r0 r1 fa c1 HL HS
  go_wp2_with fail
  exact row_ret_ritem rfl rfl rfl (rowAt_setRow_same r3 _) ⟨rfl, Below.setRow b3 (Nat.le_succ _) _⟩
set_option maxRecDepth 100000 in
set_option maxHeartbeats 2000000 in
theorem r16Inner_any (x y : Itm) (w : World) : Calls Tryz.prog 64 #[.agg (cellsI x), .agg (cellsI y)] w fun e w' => e = .returned (.agg (cellsI (innerI x y))) ∧ Below w.heap.size w w' := by
  have b0 : Below w.heap.size w (((w.alloc (.cells (cellsI x) 53)).alloc (.cells (cellsI y) 53)).alloc (.cells (cellsI zeroItm) 53)) := (((Below.refl _ _).alloc (Nat.le_refl _) _).alloc (by simp only [World.size_alloc]; omega) _).alloc (by simp only [World.size_alloc]; omega) _
  have r0 : rowAt (((w.alloc (.cells (cellsI x) 53)).alloc (.cells (cellsI y) 53)).alloc (.cells (cellsI zeroItm) 53)) w.heap.size = some (cellsI x) := (rowAt_alloc_past _ _ _ (by simp only [World.size_alloc]; omega)).trans ((rowAt_alloc_past _ _ _ (by simp only [World.size_alloc]; omega)).trans (rowAt_alloc_at _ _ _ _ rfl))
  have r1 : rowAt (((w.alloc (.cells (cellsI x) 53)).alloc (.cells (cellsI y) 53)).alloc (.cells (cellsI zeroItm) 53)) (w.heap.size + 1) = some (cellsI y) := (rowAt_alloc_past _ _ _ (by simp only [World.size_alloc]; omega)).trans (rowAt_alloc_at _ _ _ _ (by simp only [World.size_alloc]))
  have r2 : rowAt (((w.alloc (.cells (cellsI x) 53)).alloc (.cells (cellsI y) 53)).alloc (.cells (cellsI zeroItm) 53)) (w.heap.size + 1 + 1) = some (cellsI zeroItm) := rowAt_alloc_at _ _ _ _ (by simp only [World.size_alloc])
  have HL := Lib.hid (fun w => r15InnerBytes_any x y w)
  have HS := Lib.hid (fun w => r3Sum_any (stx (innerB x y)) w (by rw [stx_size]; exact innerB_len x y))
  have hd : (stx (innerB x y)).data.toList = innerB x y := by simp
  rw [hd] at HS
  have HCO := Lib.hid (fun w => rCommon_any x.b y.b w)
  have HC := Lib.hid (fun w => rCut_any x.b (common x.b y.b : Nat) w)
  rw [Int.toNat_natCast] at HC
  have g65 := get_I65 x
  have g131 := get_I65 y
  unfold innerI
  generalize shaLab (innerB x y) = J at *
  generalize stx (innerB x y) = SB at *
  generalize cut x.b (common x.b y.b) = CU at *
  generalize common x.b y.b = cn at *
  obtain ⟨m, hm⟩ : ∃ m, x.e = m := ⟨_, rfl⟩
  obtain ⟨k, hk⟩ : ∃ k, y.e = k := ⟨_, rfl⟩
  rw [hm] at g65 ⊢
  rw [hk] at g131 ⊢
  clear hd hm hk
  go_enter Tryz.func64, Tryz.ntmps64
  go_wp2_with fail
  generalize ((w.alloc (.cells (cellsI x) 53)).alloc (.cells (cellsI y) 53)).alloc (.cells (cellsI zeroItm) 53) = W at *
  refine (HCO.out _).mono ?_
  rintro e w1 ⟨rfl, b1⟩
  have b2 := below_past b0 b1 b0.size
  have q0 := rowAt_past b1 r0
  have q1 := rowAt_past b1 r1
  have q2 := rowAt_past b1 r2
  clear b0 b1 r0 r1 r2 HCO
  go_wp2_with fail
  have fa := fun z : Past w1 => rowAt_past z.h q0
  have fb := fun z : Past w1 => rowAt_past z.h q1
  have c1 := fun z : Past w1 => (cell_of_rowAt (rowAt_past z.h q0) 65).trans g65
  have c2 := fun z : Past w1 => (cell_of_rowAt (rowAt_past z.h q1) 65).trans g131
  clear g65 g131
  refine wp_region_tok [] 15 (fun _ _ _ => True) (by kernel_rfl) (by kernel_rfl) (by intro i hi; cases hi) ?_
  intro τ hτ
  clear hτ
  simp only [List.take_succ_cons, List.take_zero]
  iterate 4 (refine tokL_val (by decide) (by kernel_rfl) rfl ?_; intro K hK; go_big_quiet_op; go_big_quiet_on)
  refine tokL_call (by decide) (by kernel_rfl) (by kernel_rfl) ?_
  apply Exists.intro
  refine And.intro ?_ ?_
  focus
    intro x hg
    unfold Oper.quietAt
    go_simp
    (exact call_yields (HC.out _))
  simp only [Act.put, List.setIfInBounds_toArray, List.set_cons_succ, List.set_cons_zero]
  iterate 2 (refine tokL_val (by decide) (by kernel_rfl) rfl ?_; intro K hK; go_big_quiet_op; go_big_quiet_on)
  refine tokL_call (by decide) (by kernel_rfl) (by kernel_rfl) ?_
  apply Exists.intro
  refine And.intro ?_ ?_
  focus
    intro x hg
    unfold Oper.quietAt
    go_simp
    (exact call_yields (HL.out _))
  simp only [Act.put, List.setIfInBounds_toArray, List.set_cons_succ, List.set_cons_zero]
  refine tokL_call (by decide) (by kernel_rfl) (by kernel_rfl) ?_
  apply Exists.intro
  refine And.intro ?_ ?_
  focus
    intro x hg
    unfold Oper.quietAt
    go_simp
    (exact call_yields (HS.out _))
  simp only [Act.put, List.setIfInBounds_toArray, List.set_cons_succ, List.set_cons_zero]
  iterate 4 (refine tokL_val (by decide) (by kernel_rfl) rfl ?_; intro K hK; go_big_quiet_op; go_big_quiet_on)
  refine tokL_sure (.int .i64 (max m k)) (by decide) (by kernel_rfl) (fun x => by go_simp) ?_
  simp only [Act.put, List.setIfInBounds_toArray, List.set_cons_succ, List.set_cons_zero]
  iterate 1 (refine tokL_val (by decide) (by kernel_rfl) rfl ?_; intro K hK; go_big_quiet_op; go_big_quiet_on)
  refine tokL_nil ?_
  simp only [List.drop_succ_cons, List.drop_zero]
  intro z hz
  have b3 := below_past b2 hz.1 b2.size
  have r3 := rowAt_past hz.1 q2
  clear hz q0 q1 q2 fa fb c1 c2 HL HS HC b2
  go_wp2_with fail
  exact row_ret_ritem rfl rfl rfl (rowAt_setRow_same r3 _) ⟨rfl, Below.setRow b3 (by omega) _⟩
end Go.Proofs.YtmabigcolabbmaaGreatDoor
