/- Entries: keys are sought. Conditions: entries of rising keys. -/
import Derived.Test.YtfklhkephdnhaaaEnts2
import Derived.Test.YtfklhkephdnhaaaEnts5
import Derived.Deep.Cut
import Derived.BigRegion
import Derived.Deep.DeepCutAuto
import Derived.Deep.RegionHeld3
import Derived.Laws.BitsAllLaws
import Derived.Laws.CopyOwn
import Derived.Lib.IndexLaws
import Derived.Lib.OthersKept
import Derived.WalkLawsBesides
import Derived.WalkSpells
import Derived.Outline
namespace Go.Proofs.Ytfklhkephdnhaaa
open Go Go.RowKit

theorem row_ent_tmp {ops : Func} {p q : Tmp} {a : Act} {w : World} {b : Nat} {c : Array Value} {u : Value} {Q : Ending → World → Prop} (h : ops.results = #[.cell p 66, .tmp q]) (hp : a.tmps.getD p undef = .pointer (some ⟨b, 0, none⟩)) (hq : a.tmps.getD q undef = u) (hd : a.defers = [])
    (hr : rowAt w b = some c) (hc : c.size = 3) (hQ : Q (.returned (.tuple #[.agg c, u])) w) : bodyPost Try.prog ops Q .ret a w := by
  subst hq
  exact bodyPost_ret (results_row_tmp h a.tmps w b _ _ hp hr Try.underlying66 rfl (by rw [hc]; kernel_rfl)) hd hQ
def entA (x : Ent) : Value := .agg #[.string (stx x.key), .string (stx x.val), .bool x.gone]
def smallB (l : List Ent) : Prop := ∀ x ∈ l, x.key.length ≤ 1000000 ∧ x.val.length ≤ 1000000
theorem stx_toList (l : List UInt8) : (stx l).toList = l := by
  rw [ByteArray.toList_eq]
/-- How many entries' keys are below a key. -/
def seekE (l : List Ent) (k : List UInt8) : Nat := l.countP fun x => decide (x.key < k)
theorem seekE_le (l : List Ent) (k : List UInt8) : seekE l k ≤ l.length := List.countP_le_length
theorem seekE_of {l : List Ent} {k : List UInt8} {c : Nat} (hc : c ≤ l.length) (h1 : ∀ t x, t < c → l[t]? = some x → x.key < k) (h2 : ∀ t x, c ≤ t → l[t]? = some x → ¬ x.key < k) : seekE l k = c := by
  unfold seekE
  conv => lhs; rw [← List.take_append_drop c l]
  rw [List.countP_append]
  have e1 : (l.take c).countP (fun x => decide (x.key < k)) = c := by
    rw [List.countP_eq_length.2 (fun x hx => ?_), List.length_take, Nat.min_eq_left hc]
    obtain ⟨t, ht, he⟩ := List.getElem_of_mem hx
    rw [List.length_take] at ht
    rw [List.getElem_take] at he
    exact decide_eq_true (h1 t x (by omega) (by rw [List.getElem?_eq_getElem (by omega), he]))
  have e2 : (l.drop c).countP (fun x => decide (x.key < k)) = 0 := by
    rw [List.countP_eq_zero]
    intro x hx
    obtain ⟨t, ht, he⟩ := List.getElem_of_mem hx
    rw [List.length_drop] at ht
    rw [List.getElem_drop] at he
    simpa using h2 (c + t) x (by omega) (by rw [List.getElem?_eq_getElem (by omega), he])
  rw [e1, e2]
  rfl
theorem rising_at {l : List Ent} (h : rising l) {a b : Nat} {x y : Ent} (hab : a < b) (hx : l[a]? = some x) (hy : l[b]? = some y) : x.key < y.key := by
  obtain ⟨ha, rfl⟩ := List.getElem?_eq_some_iff.1 hx
  obtain ⟨hb, rfl⟩ := List.getElem?_eq_some_iff.1 hy
  exact List.pairwise_iff_getElem.1 h a b ha hb hab
/-- Those ahead of the place are below the key, the others aren't. -/
theorem seekE_lt {l : List Ent} (h : rising l) {k : List UInt8} {t : Nat} {x : Ent} (hx : l[t]? = some x) : x.key < k ↔ t < seekE l k := by
  have ht := (List.getElem?_eq_some_iff.1 hx).1
  have key : ∃ c, c ≤ l.length ∧ (∀ t x, t < c → l[t]? = some x → x.key < k) ∧ (∀ t x, c ≤ t → l[t]? = some x → ¬ x.key < k) := by
    have : ∀ m, (∃ c, c ≤ l.length ∧ (∀ t x, t < c → l[t]? = some x → x.key < k) ∧ (∀ t x, c ≤ t → t < m → l[t]? = some x → ¬ x.key < k)) := by
      intro m
      induction m with
      | zero => exact ⟨0, Nat.zero_le _, fun t x h => absurd h (Nat.not_lt_zero _), fun t x _ h => absurd h (Nat.not_lt_zero _)⟩
      | succ m ih =>
        obtain ⟨c, c1, c2, c3⟩ := ih
        cases hm : l[m]? with
        | none => exact ⟨c, c1, c2, fun t x h1 h2 h3 => by
            by_cases q : t = m
            · subst q; rw [hm] at h3; cases h3
            · exact c3 t x h1 (by omega) h3⟩
        | some y =>
          by_cases hy : y.key < k
          · refine ⟨m + 1, (List.getElem?_eq_some_iff.1 hm).1, fun t x h1 h2 => ?_, fun t x h1 h2 => by omega⟩
            by_cases q : t = m
            · subst q; rw [hm] at h2; cases h2; exact hy
            · exact klt_trans (rising_at h (by omega) h2 hm) hy
          · exact ⟨c, c1, c2, fun t x h1 h2 h3 => by
              by_cases q : t = m
              · subst q; rw [hm] at h3; cases h3; exact hy
              · exact c3 t x h1 (by omega) h3⟩
    obtain ⟨c, c1, c2, c3⟩ := this l.length
    exact ⟨c, c1, c2, fun t x h1 h2 => c3 t x h1 (List.getElem?_eq_some_iff.1 h2).1 h2⟩
  obtain ⟨c, c1, c2, c3⟩ := key
  rw [seekE_of c1 c2 c3]
  constructor
  · intro hk
    by_cases q : t < c
    · exact q
    · exact absurd hk (c3 t x (by omega) hx)
  · exact fun q => c2 t x q hx
end Go.Proofs.Ytfklhkephdnhaaa
