/- The first sixty of the entries that came in, as a list of the call's own. Conditions: none. -/
import Derived.Test.YtpfkomglghmnfaaMemPut
namespace Go.Proofs.Ytpfkomglghmnfaa
open Go Go.RowKit

theorem InEnts.take {w : World} {A : Option Addr} {n cap k : Nat} {es : List Ent} (h : InEnts w (.slice A n cap) es) (hk : k ≤ es.length) : InEnts w (.slice A k cap) (es.take k) := by
  obtain ⟨A', cap', h1, h2, h3, h4⟩ := h
  obtain ⟨rfl, rfl, rfl⟩ : A = A' ∧ n = es.length ∧ cap = cap' := by simpa using h1
  refine ⟨_, _, by rw [List.length_take, Nat.min_eq_left hk], by rw [List.length_take]; omega, by omega, fun i x hi => ?_⟩
  rw [List.getElem?_take] at hi
  split at hi
  · exact h4 i x hi
  · cases hi
theorem InEnts.cells {w : World} {a : Addr} {n cap : Nat} {es : List Ent} (h : InEnts w (.slice (some a) n cap) es) : ∀ j u, (entCells es)[j]? = some u → w.cell? (a.add j) = some u := by
  intro j u hu
  obtain ⟨A', cap', h1, h2, h3, h4⟩ := h
  have hj : j < es.length * 3 := by rw [← entCells_length]; exact (List.getElem?_eq_some_iff.1 hu).1
  obtain ⟨x, hx⟩ : ∃ x, es[j / 3]? = some x := ⟨_, List.getElem?_eq_getElem (by omega)⟩
  obtain ⟨a', e, k1, k2, k3⟩ := h4 _ x hx
  obtain ⟨e1, _, _⟩ : some a = A' ∧ n = es.length ∧ cap = cap' := by simpa using h1
  rw [e] at e1
  obtain rfl : a = a' := by simpa using e1
  obtain ⟨c0, c1, c2⟩ := entCells_get es _ x hx
  rcases (by omega : j = j / 3 * 3 ∨ j = j / 3 * 3 + 1 ∨ j = j / 3 * 3 + 2) with q | q | q
  · rw [← q] at c0 k1
    rw [k1, ← hu, c0]
  · rw [← q] at c1 k2
    rw [k2, ← hu, c1]
  · rw [← q] at c2 k3
    rw [k3, ← hu, c2]
/-- Entries that came in are put behind a list of the call's own. -/
theorem wpList_put_in {ops : Array Oper} {rest : List Oper} {o : Oper} {a : Act} {w : World} {Q : Exit → Act → World → Prop} (hgd : o.guard = none) (s x : Operand)
    (ho : o.op = .call { callee := .builtin .append, args := #[s, x], argTypes := #[22, 22] }) (B : Nat) (v : Value) (es : List Ent) (hs : a.eval s = v) (hown : OwnEnts w B v es)
    (u : Value) (ts : List Ent) (hx : a.eval x = u) (hu : InEnts w u ts) (hB : B ≤ w.heap.size) (hl : es.length ≤ 1000000) (hl2 : ts.length ≤ 1000000)
    (h : ∀ v' w', OwnEnts w' B v' (es ++ ts) → w.grownBy w' v.ownBlock → (v'.ownBlock = v.ownBlock ∨ v'.ownBlock = some w.heap.size) → wpList Try.prog ops Q rest (a.put o.dst v') w') : wpList Try.prog ops Q (o :: rest) a w := by
  obtain ⟨i0, hi, hz0, hz1, hz2⟩ := info_ent
  obtain ⟨A, cap, hu1, hu2, hu3, hu4⟩ := id hu
  have key : ∀ (ad : Addr), (∀ j u, (entCells ts)[j]? = some u → w.cell? (ad.add j) = some u) → u = .slice (some ad) ts.length cap → wpList Try.prog ops Q (o :: rest) a w := fun ad hc hv => by
    refine wpList_append_own_at (P := Try.prog) w hgd s x 22 ho B 28 i0 _ 3 40 Try.underlying22 hi hz0 hz1 hz2 rfl (by decide) v es.length (entCells es) hs hown ad ts.length cap (entCells ts) (hx.trans hv) (entCells_length ts) hc (oneEs ts) (by unfold maxLen; omega) (by omega) hB ?_
    intro v' w' h1 h2 _ h4
    refine h v' w' ?_ h2 h4
    unfold OwnEnts
    rw [entCells_append, List.length_append]
    exact h1
  by_cases h0 : ts = []
  · subst h0
    cases A with
    | some ad => exact key ad (fun j u hj => by simp [entCells] at hj) hu1
    | none =>
      have hrun := run_append_none_len (w := w) Try.underlying22 hi hown cap o.type
      refine wpList_plain hgd fun K hK => ?_
      unfold Oper.wp execOp
      simp only [ho, resolve, invoke, builtin, Sem.run_bind, Sem.run_pure, Result.andThen_ok, List.map_toArray, List.map_cons, List.map_nil, hs, hx.trans hu1, List.length_nil, hrun]
      exact hK _ _ (h v w (by rw [List.append_nil]; exact hown) ⟨rfl, rfl, rfl, Nat.le_refl _, fun _ _ _ => rfl⟩ (.inl rfl))
  · obtain ⟨y, hy⟩ : ∃ y, ts[0]? = some y := by
      cases ts with
      | nil => exact absurd rfl h0
      | cons y r => exact ⟨y, rfl⟩
    obtain ⟨ad, rfl, _⟩ := hu4 0 y hy
    subst hu1
    exact key _ hu.cells rfl
set_option maxRecDepth 100000 in
set_option maxHeartbeats 1000000 in
theorem sixty_any (v : Value) (es : List Ent) (w : World) (h : InEnts w v es) : Calls Try.prog 16 #[v] w fun e w' => ∃ v', e = .returned v' ∧ OwnEnts w' w.heap.size v' (es.take 60) ∧ Below w.heap.size w w' := by
  obtain ⟨A, cap, rfl, h1, h2, h3⟩ := id h
  have b0 : Below w.heap.size w (w.alloc (.cells #[] 28)) := (Below.refl _ _).alloc (Nat.le_refl _) _
  have o0 := ownEnts_new w w.heap.size w.heap.size rfl (Nat.le_refl _)
  have hB : w.heap.size ≤ (w.alloc (.cells #[] 28)).heap.size := b0.size
  by_cases hl : 60 < es.length
  · have ht := (h.take (k := 60) (by omega)).below b0
    have hlen : (es.take 60).length = 60 := by rw [List.length_take]; omega
    have hl2 : (es.take 60).length ≤ 1000000 := by omega
    obtain ⟨n, hn⟩ : ∃ n, es.length = n := ⟨_, rfl⟩
    rw [hn] at hl h1
    rw [hn]
    have hli : (60 : Int) < n := by omega
    have hd : decide ((60 : Int) < n) = true := decide_eq_true hli
    have hc : (60 : Int) ≤ cap := by omega
    have HT := Lib.hid ht
    have HO := Lib.hid o0
    have HB := Lib.hid b0
    unfold maxLen at h2
    clear h h3 ht o0 b0 hn hlen
    go_enter Try.func16, Try.ntmps16
    go_wp2_with (at_builtin; refine wpList_put_in rfl _ _ rfl w.heap.size _ [] rfl HO.out _ (es.take 60) rfl HT.out hB (Nat.zero_le _) hl2 ?_)
    intro v' w' ho hg hb
    have b1 := HO.out.grown hg HB.out hB
    go_wp2_with fail
    go_ret
    exact ⟨v', rfl, ho, b1⟩
  · have ht := h.below b0
    have hl2 : es.length ≤ 1000000 := by omega
    rw [List.take_of_length_le (by omega)]
    obtain ⟨n, hn⟩ : ∃ n, es.length = n := ⟨_, rfl⟩
    rw [hn] at hl ht
    rw [hn]
    have hd : decide ((60 : Int) < n) = false := decide_eq_false (by omega)
    have hd2 : ¬ (60 : Int) < n := by omega
    have HT := Lib.hid ht
    have HO := Lib.hid o0
    have HB := Lib.hid b0
    clear h h3 ht o0 b0 hn
    go_enter Try.func16, Try.ntmps16
    go_wp2_with (at_builtin; refine wpList_put_in rfl _ _ rfl w.heap.size _ [] rfl HO.out _ es rfl HT.out hB (Nat.zero_le _) hl2 ?_)
    intro v' w' ho hg hb
    have b1 := HO.out.grown hg HB.out hB
    go_wp2_with fail
    go_ret
    exact ⟨v', rfl, ho, b1⟩
end Go.Proofs.Ytpfkomglghmnfaa
