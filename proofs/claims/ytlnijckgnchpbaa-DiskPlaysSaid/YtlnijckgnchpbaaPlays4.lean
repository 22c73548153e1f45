/- The document's disk: a file is put. Conditions: none. -/
import Derived.Test.YtlnijckgnchpbaaPlays3
namespace Go.Proofs.Ytlnijckgnchpbaa
open Go Go.RowKit Go.Maps
attribute [local go_sem] Oper.semAt_some

/-- What is left to be put behind what has been. -/
def putRest (f : DFile) (dn : Bool) (l : List DFile) : List DFile := if dn then dDrop l f.name else dPut f l
theorem putRest_lt {f x : DFile} {r : List DFile} (h : x.name < f.name) : putRest f false (x :: r) = [x] ++ putRest f false r := by
  show dPut f (x :: r) = _
  rw [dPut, if_pos h]
  rfl
theorem putRest_eq {f x : DFile} {r : List DFile} (h : x.name = f.name) : putRest f false (x :: r) = [f] ++ putRest f true r := by
  show dPut f (x :: r) = _
  rw [dPut, if_neg (by rw [h]; exact nlt_irrefl _)]
  show f :: dDrop (x :: r) f.name = f :: dDrop r f.name
  simp [dDrop, h]
theorem putRest_gt {f x : DFile} {r : List DFile} (h : ¬ x.name < f.name) (hn : x.name ≠ f.name) : putRest f false (x :: r) = [f, x] ++ putRest f true r := by
  show dPut f (x :: r) = _
  rw [dPut, if_neg h]
  show f :: dDrop (x :: r) f.name = f :: x :: dDrop r f.name
  simp [dDrop, hn]
theorem putRest_ne {f x : DFile} {r : List DFile} (hn : x.name ≠ f.name) : putRest f true (x :: r) = [x] ++ putRest f true r := by
  show dDrop (x :: r) f.name = x :: dDrop r f.name
  simp [dDrop, hn]
theorem putRest_same {f x : DFile} {r : List DFile} (hn : x.name = f.name) : putRest f true (x :: r) = putRest f true r := by
  show dDrop (x :: r) f.name = dDrop r f.name
  simp [dDrop, hn]
theorem putRest_nil_true (f : DFile) : putRest f true [] = [] := rfl
theorem putRest_nil_false (f : DFile) : putRest f false [] = [f] := rfl
end Go.Proofs.Ytlnijckgnchpbaa
