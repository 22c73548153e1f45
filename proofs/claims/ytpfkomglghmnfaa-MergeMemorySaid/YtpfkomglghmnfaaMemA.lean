/- slices.Insert of one entry into a list of the call's own. Conditions: lists of at most 1000 entries. -/
import Derived.Test.YtpfkomglghmnfaaFind
import Derived.Shelf.RegionOpenPlain
import Derived.Lib.Walk
import Derived.Lib.SliceRun
import Derived.Lib.JoinLaws
import Derived.Lib.AppendZerosOnto
import Derived.Lib.Overlaps
import Derived.Laws.Externs
import Derived.Laws.IdiomCopy
import Derived.Laws.NewBlocks
namespace Go.Proofs.Ytpfkomglghmnfaa
open Go Go.RowKit Go.Lib

theorem wpList_copy_run3 {P : Program} (w : World) {ops : Array Oper} {rest : List Oper} {o : Oper} {a : Act} {Q : Exit → Act → World → Prop} (hgd : o.guard = none) (d s : Operand) (t t' : TypeId)
    (ho : o.op = .call { callee := .builtin .copy, args := #[d, s], argTypes := #[t, t'] }) (v u : Value) (hd : a.eval d = v) (hs : a.eval s = u) {v' : Value} {w' : World}
    (hr : (Builtin.copy_ #[t, t'] o.type #[v, u]).run P w = .ok v' w') (h : wpList P ops Q rest (a.put o.dst v') w') : wpList P ops Q (o :: rest) a w :=
  wpList_plain hgd fun _ hK => by
    unfold Oper.wp execOp
    simp only [ho, resolve, invoke, builtin, Sem.run_bind, Sem.run_pure, Result.andThen_ok, List.map_toArray, List.map_cons, List.map_nil, hd, hs, hr]
    exact hK _ _ h
theorem step_copy_run3 {P : Program} {ops : Array Oper} {o : Oper} {a : Act} {w : World} {K : Act → World → Prop} {Q : Exit → Act → World → Prop} {E : Prop}
    (hg : o.guard = none) (d x : Operand) (dT sT : TypeId) (hop : o.op = Op.call { callee := Callee.builtin Builtin.copy, args := #[d, x], argTypes := #[dT, sT] })
    (v u : Value) (hd : a.eval d = v) (hx : a.eval x = u) {v' : Value} {w' : World} (hr : (Builtin.copy_ #[dT, sT] o.type #[v, u]).run P w = .ok v' w') (hK : K (a.put o.dst v') w') :
    if Region.wanted o (yielded ops a.tmps) = true then Oper.wp P o a w K Q else E := by
  have hw : Region.wanted o (yielded ops a.tmps) = true := by simp [Region.wanted, hg]
  rw [if_pos hw]
  unfold Oper.wp
  simp [execOp, hop, resolve, invoke, builtin, hd, hx, hr, Result.andThen]
  exact hK
/-- copy, of elements of three cells: all is read before anything is written. -/
theorem run_copy_three {P : Program} (w : World) (dT sT ty elem : TypeId) (b o dLen dCap : Nat) (a : Addr) (sLen sCap k : Nat) (cs : List Value)
    (hu : P.underlying dT = some (.slice elem)) (hs : (P.info? elem).map (·.size) = some 3) (hk : k = Nat.min sLen dLen) (hn : cs.length = k * 3)
    (hsrc : ∀ j v, cs[j]? = some v → w.cell? (a.add j) = some v) (c : Array Value) (hr : rowAt w b = some c) (ho : o + cs.length ≤ c.size) (h1 : ∀ v ∈ cs, v.oneCell' = true) :
    (Builtin.copy_ #[dT, sT] ty #[.slice (some ⟨b, o, none⟩) dLen dCap, .slice (some a) sLen sCap]).run P w = .ok (goInt k) (w.setRow b (splice c o cs)) := by
  have hl := run_loadCells_list (P := P) w a cs hsrc
  have hst := run_storeCells_cells (P := P) b o cs 0 w (fun j hj => by rw [Nat.add_zero, cell_of_rowAt hr, Array.getElem?_eq_getElem (by omega)]; rfl) (fun j _ => frozen_of_rowAt hr _) h1
  rw [Nat.add_zero, setCells_eq_setRow b cs o w c hr ho] at hst
  subst hk
  cases hq : P.info? elem with
  | none => simp [hq] at hs
  | some i =>
    have hi : i.size = 3 := by simpa [hq] using hs
    rw [hn] at hl
    simp [Builtin.copy_, run_underlying hu, Builtin.lenOf, Builtin.firstCells, sizeOf, typeInfo, hq, hi, hl, hst]

/-- A list with one more at a place. -/
def insE (l : List Ent) (i : Nat) (x : Ent) : List Ent := l.take i ++ x :: l.drop i
theorem insE_len (l : List Ent) (i : Nat) (x : Ent) (hi : i ≤ l.length) : (insE l i x).length = l.length + 1 := by
  simp only [insE, List.length_append, List.length_take, List.length_cons, List.length_drop]
  omega
theorem insE_cells (l : List Ent) (i : Nat) (x : Ent) : entCells (insE l i x) = entCells (l.take i) ++ (entC x ++ entCells (l.drop i)) := by
  rw [insE, entCells_append]
  rfl
theorem entC_len (x : Ent) : (entC x).length = 3 := rfl
/-- The two copies: first the tail, then the entry. -/
theorem insE_splice (c : Array Value) (l : List Ent) (i : Nat) (x : Ent) (hi : i ≤ l.length) (hc : (l.length + 1) * 3 ≤ c.size) (ht : c.toList.take (i * 3) = entCells (l.take i)) :
    (splice (splice c ((i + 1) * 3) (entCells (l.drop i))) (i * 3) (entC x)).toList.take ((l.length + 1) * 3) = entCells (insE l i x) ∧ (splice (splice c ((i + 1) * 3) (entCells (l.drop i))) (i * 3) (entC x)).size = c.size := by
  have hd : (entCells (l.drop i)).length = (l.length - i) * 3 := by rw [entCells_length, List.length_drop]
  have hcl : c.toList.length = c.size := Array.length_toList
  have ht2 : (entCells (l.take i)).length = i * 3 := by rw [entCells_length, List.length_take, Nat.min_eq_left hi]
  have e1 : (splice c ((i + 1) * 3) (entCells (l.drop i))).toList = c.toList.take ((i + 1) * 3) ++ (entCells (l.drop i) ++ c.toList.drop ((l.length + 1) * 3)) := by
    simp only [splice, List.append_assoc]
    rw [hd, show (i + 1) * 3 + (l.length - i) * 3 = (l.length + 1) * 3 by omega]
  have l1 : (c.toList.take ((i + 1) * 3)).length = (i + 1) * 3 := by rw [List.length_take]; omega
  have e2 : (splice (splice c ((i + 1) * 3) (entCells (l.drop i))) (i * 3) (entC x)).toList = entCells (l.take i) ++ (entC x ++ (entCells (l.drop i) ++ c.toList.drop ((l.length + 1) * 3))) := by
    rw [splice, e1, entC_len]
    simp only [List.append_assoc]
    congr 1
    · rw [List.take_append_of_le_length (by rw [l1]; omega), List.take_take, Nat.min_eq_left (by omega), ht]
    · congr 1
      rw [show i * 3 + 3 = (c.toList.take ((i + 1) * 3)).length by rw [l1]; omega, List.drop_left]
  have hl2 : (entCells (l.take i) ++ (entC x ++ entCells (l.drop i))).length = (l.length + 1) * 3 := by
    rw [List.length_append, List.length_append, ht2, entC_len, hd]
    omega
  refine ⟨?_, ?_⟩
  · rw [e2, insE_cells, ← List.append_assoc (entC x), ← List.append_assoc (entCells (l.take i)), ← hl2, List.take_left]
  · rw [← Array.length_toList, e2]
    simp only [List.length_append, ht2, entC_len, hd, List.length_drop, hcl]
    omega
end Go.Proofs.Ytpfkomglghmnfaa
