/- Numbers put behind a list of one's own, as a step of a region that draws its order. Conditions: none. -/
import Derived.Test.YtfklhkephdnhaaaIntsK
import Derived.Deep.RegionLaw
namespace Go.Proofs.Ytfklhkephdnhaaa
open Go Go.RowKit Go.Maps

theorem step_putsN {ops : Array Oper} {o : Oper} {a : Act} {w : World} {K : Act → World → Prop} {Q : Exit → Act → World → Prop} {E : Prop} (hgd : o.guard = none) (s x : Operand)
    (ho : o.op = .call { callee := .builtin .append, args := #[s, x], argTypes := #[25, 25] }) (B : Nat) (v : Value) (L : List Int) (hs : a.eval s = v) (hown : OwnNs w B v L)
    (u : Value) (ts : List Int) (hx : a.eval x = u) (hu : NsAt w u ts) (hB : B ≤ w.heap.size) (hl : L.length ≤ 1000000) (hl2 : ts.length ≤ 1000000) (k m : Nat) (hk : L.length = k) (hm : ts.length = m)
    (h : ∀ ao' c' w', OwnNs w' B (.slice ao' (k + m) c') (L ++ ts) → w.grownBy w' v.ownBlock → K (a.put o.dst (.slice ao' (k + m) c')) w') :
    if Region.wanted o (yielded ops a.tmps) = true then Oper.wp Try.prog o a w K Q else E := by
  subst hk hm
  obtain ⟨i0, hi, hz0, hz1, hz2⟩ := info_intK
  have hw : Region.wanted o (yielded ops a.tmps) = true := by simp [Region.wanted, hgd]
  rw [if_pos hw]
  obtain ⟨A, cap, hu1, hu2, hu3, _, hu4⟩ := id hu
  have key : ∀ (ad : Addr), (∀ j u, (ts.map (Value.int .i64))[j]? = some u → w.cell? (ad.add j) = some u) → u = .slice (some ad) ts.length cap → Oper.wp Try.prog o a w K Q := fun ad hc hv => by
    obtain ⟨v', w', hr, h3, h4, _, h5⟩ := run_append_own_at (P := Try.prog) w B 25 o.type 3 i0 (.int .i64 0) 1 8 Try.underlying25 hi hz0 hz1 hz2 rfl (by decide) v L.length (L.map (Value.int .i64)) hown ad ts.length cap (ts.map (Value.int .i64)) (by simp) hc (oneNs ts) (by unfold maxLen; omega) (by omega) hB
    have h6 : OwnNs w' B v' (L ++ ts) := by
      unfold OwnNs
      rw [List.map_append, List.length_append]
      exact h3
    obtain ⟨ao', c', hv2⟩ := h6.shape
    rw [List.length_append] at hv2
    subst hv2
    unfold Oper.wp execOp
    simp only [ho, resolve, invoke, builtin, Sem.run_bind, Sem.run_pure, Result.andThen_ok, List.map_toArray, List.map_cons, List.map_nil, hs, hx.trans hv, hr]
    exact h ao' c' w' h6 h4
  by_cases h0 : ts = []
  · subst h0
    cases A with
    | some ad => exact key ad (fun j u hj => by simp at hj) hu1
    | none =>
      have hrun := run_append_none_len (w := w) Try.underlying25 hi hown cap o.type
      obtain ⟨ao', c', hv2⟩ := hown.shape
      subst hv2
      unfold Oper.wp execOp
      simp only [ho, resolve, invoke, builtin, Sem.run_bind, Sem.run_pure, Result.andThen_ok, List.map_toArray, List.map_cons, List.map_nil, hs, hx.trans hu1, List.length_nil, hrun]
      exact h ao' c' w (by rw [List.append_nil, List.length_nil, Nat.add_zero]; exact hown) ⟨rfl, rfl, rfl, Nat.le_refl _, fun _ _ _ => rfl⟩
  · obtain ⟨y, hy⟩ : ∃ y, ts[0]? = some y := by
      cases ts with
      | nil => exact absurd rfl h0
      | cons y r => exact ⟨y, rfl⟩
    obtain ⟨a0, rfl, _⟩ := hu4 0 y hy
    subst hu1
    exact key _ (nsAt_cells hu) rfl
/-- A region whose ways all come to one frame. -/
theorem wp_two {c : Code} {Q : Exit → Act → World → Prop} {a : Act} {w : World} (F : Act → Option Addr → Nat → Option Addr → Nat → Act) (k : Nat) (L : List Int)
    (h : Hid (∀ x1 c1 x2 c2 w', OwnNs w' w.heap.size (.slice x2 k c2) L → Below w.heap.size w w' → Q .normal (F a x1 c1 x2 c2) w') → c.wp Try.prog Q a w)
    (hq : ∀ x1 c1 x2 c2 w', OwnNs w' w.heap.size (.slice x2 k c2) L → Below w.heap.size w w' → Q .normal (F a x1 c1 x2 c2) w') : c.wp Try.prog Q a w :=
  h (Lib.hid hq)
end Go.Proofs.Ytfklhkephdnhaaa
