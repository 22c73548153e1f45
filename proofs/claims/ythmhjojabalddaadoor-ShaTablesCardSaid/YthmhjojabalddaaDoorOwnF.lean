/- A list of the call's own in a row that may bear a mark behind its end (what []byte(s) makes). Conditions: none. -/
import Derived.Test.YthmhjojabalddaaDoorStrs
import Derived.ArgAppend
import Derived.Maps.AppendAt
namespace Go.Proofs.YthmhjojabalddaaDoor
open Go Go.RowKit

/-- A mark that no cell of the row bears. -/
def Harmless (fr : Nat × Nat) (n : Nat) : Prop := fr = (0, 0) ∨ n ≤ fr.1
/-- A list of one-cell elements of the call's own. -/
def OwnF (w : World) (B : Nat) (e : TypeId) (v : Value) (xs : List Value) : Prop :=
  (v = .slice none 0 0 ∧ xs = []) ∨ ∃ g cap cur fr, v = .slice (some ⟨g, 0, none⟩) xs.length cap ∧ B ≤ g ∧ w.heap[g]? = some (.cells cur e fr) ∧ Harmless fr cur.size ∧ xs.length ≤ cap ∧ cap ≤ maxLen ∧ cur.size = cap ∧ cur.toList.take xs.length = xs
theorem OwnF.of_own {w : World} {B : Nat} {e : TypeId} {v : Value} {n : Nat} {xs : List Value} (h : w.ownsRow B e 1 v n xs) : OwnF w B e v xs := by
  have hl : xs.length = n := by have := h.1; omega
  rcases h.2 with ⟨h1, h2⟩ | ⟨g, cap, cur, h1, h2, h3, h4, h5, h6, h7⟩
  · exact .inl ⟨h1, List.eq_nil_of_length_eq_zero (by omega)⟩
  · exact .inr ⟨g, cap, cur, (0, 0), by rw [h1, hl], h2, h3, .inl rfl, by omega, h5, by omega, by rw [hl]; simpa using h7⟩
theorem OwnF.lt {w : World} {B : Nat} {e : TypeId} {v : Value} {xs : List Value} (h : OwnF w B e v xs) : ∀ k, v.ownBlock = some k → B ≤ k ∧ k < w.heap.size := by
  intro k hk
  rcases h with ⟨rfl, _⟩ | ⟨g, cap, cur, fr, rfl, h2, h3, _⟩
  · simp [Value.ownBlock] at hk
  · simp only [Value.ownBlock, Option.some.injEq] at hk
    subst hk
    exact ⟨h2, (Array.getElem?_eq_some_iff.1 h3).1⟩
theorem OwnF.kept {w w' : World} {B : Nat} {e : TypeId} {v : Value} {xs : List Value} (h : OwnF w B e v xs) (hb : ∀ g, v.ownBlock = some g → w'.heap[g]? = w.heap[g]?) : OwnF w' B e v xs := by
  rcases h with h | ⟨g, cap, cur, fr, h1, h2, h3, h4⟩
  · exact .inl h
  · exact .inr ⟨g, cap, cur, fr, h1, h2, by rw [hb g (by rw [h1]; rfl), h3], h4⟩
theorem OwnF.below {w w' : World} {B : Nat} {e : TypeId} {v : Value} {xs : List Value} (h : OwnF w B e v xs) (k : Below w.heap.size w w') : OwnF w' B e v xs :=
  h.kept fun g hg => k.block g (h.lt g hg).2
theorem OwnF.cell {w : World} {B : Nat} {e : TypeId} {v : Value} {xs : List Value} (h : OwnF w B e v xs) {i : Nat} (hi : i < xs.length) : ∃ g cap, v = .slice (some ⟨g, 0, none⟩) xs.length cap ∧ xs.length ≤ cap ∧ cap ≤ maxLen ∧ ∀ j, j < xs.length → w.cell? ⟨g, j, none⟩ = xs[j]? := by
  rcases h with ⟨_, rfl⟩ | ⟨g, cap, cur, fr, h1, h2, h3, h4, h5, h6, h7, h8⟩
  · simp at hi
  · refine ⟨g, cap, h1, h5, h6, fun j hj => ?_⟩
    rw [cell_of_row w g j cur e fr h3, ← h8, List.getElem?_take, if_pos (by omega)]
    simp
theorem OwnF.shape {w : World} {B : Nat} {e : TypeId} {v : Value} {xs : List Value} (h : OwnF w B e v xs) : ∃ ao cap, v = .slice ao xs.length cap := by
  rcases h with ⟨h1, h2⟩ | ⟨g, cap, cur, fr, h1, _⟩
  · exact ⟨none, 0, by rw [h1, h2]; rfl⟩
  · exact ⟨_, _, h1⟩
theorem frozen_harmless {w : World} {g i : Nat} {cur : Array Value} {e : TypeId} {fr : Nat × Nat} (h : w.heap[g]? = some (.cells cur e fr)) (hf : Harmless fr cur.size) (hi : i < cur.size) : w.frozen? ⟨g, i, none⟩ = false := by
  unfold World.frozen?
  simp only [h]
  rcases hf with rfl | hf
  · simp
  · simp only [Bool.and_eq_false_iff, decide_eq_false_iff_not]
    left
    omega
theorem heap_set_mark {w : World} {g i : Nat} {cur : Array Value} {e : TypeId} {fr : Nat × Nat} (h : w.heap[g]? = some (.cells cur e fr)) (x : Value) : (w.setCell ⟨g, i, none⟩ x).heap[g]? = some (.cells (cur.setIfInBounds i x) e fr) := by
  simp [World.setCell, Array.getElem?_modify, h]
section
variable {P : Program}
/-- One element more. -/
theorem run_put_one (w : World) (t ty e : TypeId) (i : TypeInfo) (z : Value) (bytes : Nat) (ht : P.underlying t = some (.slice e)) (hi : P.info? e = some i) (hz : i.zero = some z) (hs1 : i.size = 1) (hby : i.bytes = bytes) (hzs : z.cells.size = 1)
    (B : Nat) (v : Value) (xs : List Value) (hown : OwnF w B e v xs) (x : Value) (ad : Addr) (c : Nat) (hcell : w.cell? ad = some x) (h1 : x.oneCell' = true) (hB : B ≤ w.heap.size) (hl : xs.length + 1 ≤ maxLen) (hlb : (xs.length + 1) * bytes ≤ 140737488355328) :
    ∃ v' w', (Builtin.append_ #[t, t] ty #[v, .slice (some ad) 1 c]).run P w = .ok v' w' ∧ OwnF w' B e v' (xs ++ [x]) ∧ w.grownBy w' v.ownBlock ∧ (v'.ownBlock = v.ownBlock ∨ ∀ g, v'.ownBlock = some g → w.heap.size ≤ g) := by
  have hnews : ∀ j u, [x][j]? = some u → w.cell? (ad.add j) = some u := by
    intro j u hu
    have hj : j = 0 := by
      have := (List.getElem?_eq_some_iff.1 hu).1
      simpa using this
    subst hj
    have hu2 : x = u := by simpa using hu
    rw [← hu2, show ad.add 0 = ad by simp [Addr.add]]
    exact hcell
  have h1' : ∀ u ∈ [x], u.oneCell' = true := by
    intro u hu
    have : u = x := by simpa using hu
    rw [this]
    exact h1
  rcases hown with ⟨rfl, rfl⟩ | ⟨g, cap, cur, fr, rfl, h2, h3, h4, h5, h6, h7, h8⟩
  · obtain ⟨v', w', hr, ho, hg, _, hat⟩ := run_append_own_at (P := P) w B t ty e i z 1 bytes ht hi hz hs1 hby hzs (by decide) (.slice none 0 0) 0 [] (World.ownsRow_nil _ _ _ _) ad 1 c [x] rfl hnews h1' (by simpa using hl) (by simpa using hlb) hB
    refine ⟨v', w', hr, OwnF.of_own ho, hg, hat.imp id fun e g hg => ?_⟩
    rw [e] at hg
    simp only [Option.some.injEq] at hg
    omega
  · by_cases hroom : xs.length + 1 ≤ cap
    · have hr := run_append_room_cells (P := P) w t ty e i ht hi g 0 xs.length cap ad 1 c [x] (by rw [hs1]; rfl) hnews h1' hroom
        (fun j hj => by
          have hj0 : j = 0 := by simpa using hj
          subst hj0
          rw [hs1, Nat.zero_add, Nat.mul_one, Nat.add_zero, cell_of_row w g _ cur e fr h3, Array.getElem?_eq_getElem (by omega)]
          rfl)
        (fun j hj => by
          have hj0 : j = 0 := by simpa using hj
          subst hj0
          rw [hs1, Nat.zero_add, Nat.mul_one, Nat.add_zero]
          exact frozen_harmless h3 h4 (by omega))
      rw [hs1, Nat.zero_add, Nat.mul_one] at hr
      have e1 : w.setCells g xs.length [x] = w.setCell ⟨g, xs.length, none⟩ x := rfl
      rw [e1] at hr
      refine ⟨_, _, hr, .inr ⟨g, cap, cur.setIfInBounds xs.length x, fr, by rw [List.length_append, List.length_singleton], h2, heap_set_mark h3 x, by simpa using h4, by rw [List.length_append]; simpa using hroom, h6, by simpa using h7, ?_⟩, ⟨rfl, rfl, rfl, by simp, fun k _ hk => Below.heap_setCell _ _ _ _ (fun e => hk (by rw [e]; rfl))⟩, .inl rfl⟩
      rw [List.length_append, List.length_singleton, Array.toList_setIfInBounds, List.take_add_one, List.take_set_of_le (Nat.le_refl _), h8]
      simp [show xs.length < cur.size by omega]
    · have hold : ∀ j u, xs[j]? = some u → w.cell? ((⟨g, 0, none⟩ : Addr).add j) = some u := by
        intro j u hu
        have hj := (List.getElem?_eq_some_iff.1 hu).1
        rw [show (⟨g, 0, none⟩ : Addr).add j = ⟨g, j, none⟩ by simp [Addr.add]; exact fun e => e.symm, cell_of_row w g j cur e fr h3, ← hu, ← h8, List.getElem?_take, if_pos (by omega)]
        simp
      obtain ⟨v', w', hr, ho, hg⟩ := run_append_arg_grows (P := P) w t ty e i z 1 bytes ht hi hz hs1 hby hzs (by decide) ⟨g, 0, none⟩ xs.length cap xs (by omega) hold ad 1 c [x] rfl hnews (by omega) hl hlb
      refine ⟨v', w', hr, ?_, ⟨hg.os, hg.tape, hg.output, hg.size, fun k hk _ => hg.block k hk (by simp)⟩, ?_⟩
      · rcases OwnF.of_own ho with hq | ⟨g2, cap2, cur2, fr2, q1, q2, q3⟩
        · exact .inl hq
        · exact .inr ⟨g2, cap2, cur2, fr2, q1, Nat.le_trans hB q2, q3⟩
      · exact .inr fun g hg => (ho.lt g hg).1
theorem wpList_put_one {w : World} {ops : Array Oper} {rest : List Oper} {o : Oper} {a : Act} {Q : Exit → Act → World → Prop} (hgd : o.guard = none) (s q : Operand) (t : TypeId)
    (ho : o.op = .call { callee := .builtin .append, args := #[s, q], argTypes := #[t, t] }) (e : TypeId) (i : TypeInfo) (z : Value) (bytes : Nat) (ht : P.underlying t = some (.slice e)) (hi : P.info? e = some i) (hz : i.zero = some z) (hs1 : i.size = 1) (hby : i.bytes = bytes) (hzs : z.cells.size = 1)
    (B : Nat) (v : Value) (xs : List Value) (hs : a.eval s = v) (hown : OwnF w B e v xs) (x : Value) (ad : Addr) (c : Nat) (hx : a.eval q = .slice (some ad) 1 c) (hcell : w.cell? ad = some x) (h1 : x.oneCell' = true) (hB : B ≤ w.heap.size) (hl : xs.length + 1 ≤ maxLen) (hlb : (xs.length + 1) * bytes ≤ 140737488355328)
    (h : ∀ v' w', OwnF w' B e v' (xs ++ [x]) → w.grownBy w' v.ownBlock → (v'.ownBlock = v.ownBlock ∨ ∀ g, v'.ownBlock = some g → w.heap.size ≤ g) → wpList P ops Q rest (a.put o.dst v') w') : wpList P ops Q (o :: rest) a w := by
  refine wpList_plain hgd fun K hK => ?_
  obtain ⟨v', w', hr, h2, h3, h4⟩ := run_put_one (P := P) w t o.type e i z bytes ht hi hz hs1 hby hzs B v xs hown x ad c hcell h1 hB hl hlb
  unfold Oper.wp execOp
  simp only [ho, resolve, invoke, builtin, Sem.run_bind, Sem.run_pure, Result.andThen_ok, List.map_toArray, List.map_cons, List.map_nil, hs, hx, hr]
  exact hK _ _ (h v' w' h2 h3 h4)
end
/-- What []byte(s) makes. -/
theorem ownF_bytes (w : World) (s : ByteArray) (cap B : Nat) (hB : B ≤ w.heap.size) (hc : s.size ≤ cap) (hm : cap ≤ maxLen) : OwnF (w.drew.alloc (.cells (bytesRow s cap) 5 ((bytesRow s cap).size, (bytesRow s cap).size + 1))) B 5 (.slice (some ⟨w.heap.size, 0, none⟩) s.size cap) (s.data.toList.map Extern.Stop.cell) := by
  have hl : (s.data.toList.map Extern.Stop.cell).length = s.size := by rw [List.length_map]; rfl
  have hz : (bytesRow s cap).size = cap := by
    unfold bytesRow
    rw [Array.size_append, Array.size_map, Array.size_replicate]
    show s.size + _ = _
    omega
  refine .inr ⟨w.heap.size, cap, bytesRow s cap, _, by rw [hl], hB, heap_alloc_new w.drew _, .inr (Nat.le_refl _), by omega, hm, hz, ?_⟩
  rw [hl]
  unfold bytesRow
  rw [Array.toList_append, List.take_append_of_le_length (by rw [Array.toList_map, List.length_map]; exact Nat.le_refl _), List.take_of_length_le (by rw [Array.toList_map, List.length_map]; exact Nat.le_refl _)]
  simp only [Array.toList_map]
  rfl
end Go.Proofs.YthmhjojabalddaaDoor
