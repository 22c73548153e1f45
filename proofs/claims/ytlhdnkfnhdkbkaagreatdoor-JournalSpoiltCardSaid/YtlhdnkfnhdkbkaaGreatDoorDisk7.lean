/- Rename. Conditions: none. -/
import Derived.Test.YtlhdnkfnhdkbkaaGreatDoorDisk6
import Derived.Maps.AppendAt
namespace Go.Proofs.YtlhdnkfnhdkbkaaGreatDoor
open Go Go.RowKit Go.Maps
attribute [local go_sem] Oper.semAt_some

theorem dRen_same {l : List DFile} {n : List UInt8} {f : DFile} (hs : dSorted l) (hf : dFind l n = some f) : dRenF l n n = l := by
  unfold dRenF
  have h1 : dBytes l n = f.bytes := dBytes_some hf
  have h2 : dSure l n = f.sure := by unfold dSure; rw [hf]
  have h3 := (dFind_some hf).2
  rw [h1, h2, ← h3]
  have := put_drop_self hs hf
  rwa [← h3] at this
end Go.Proofs.YtlhdnkfnhdkbkaaGreatDoor
