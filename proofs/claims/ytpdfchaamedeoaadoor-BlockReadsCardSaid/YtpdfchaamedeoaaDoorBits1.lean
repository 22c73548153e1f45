/- What Bit, Common and Order answer, the program's and the document's. Conditions: none. -/
import Derived.Test.YtpdfchaamedeoaaDoorLabRun
import Derived.Test.YtpdfchaamedeoaaDoorMath
import Derived.Test.YtpdfchaamedeoaaDoorShelf
import Derived.Outline
import Derived.BigQuiet
import Derived.Deep.QuietTactic
import Derived.Deep.RegionHeld3
import Derived.Lib.Hide
import Derived.Lib.BytesEntry
namespace Go.Proofs.YtpdfchaamedeoaaDoor
open Go Go.RowKit

theorem below_drewN {B : Nat} {a w : World} (h : Below B a w) (n : Nat) : Below B a (w.drewN n) := ⟨h.os, h.tape, h.output, h.size, h.block⟩
theorem ret_int {k : IntKind} {a b : Int} (h : a = b) : Ending.returned (.int k a) = .returned (.int k b) := by rw [h]

def bitI (a : Lab) (i : Int) : Int := if 0 ≤ i ∧ i < 256 then (bit a i.toNat : Int) else 0

theorem half_walk (x k : Nat) : ((x : Int) / 2 ^ k) / 2 = (x : Int) / 2 ^ (k + 1) := by
  rw [div_pow_cast, div_pow_cast, Nat.pow_succ, ← Nat.div_div_eq_div_mul]
  rfl

theorem run_bytes_row (w : World) (b1 : Nat) (x : Lab) (h1 : rowAt w b1 = some (cellsL x)) (c : Nat) : (Extern.Bytes.bytesOf (.slice (some ⟨b1, 0, none⟩) 32 c)).run Tryd.prog w = .ok ⟨x.l.toArray⟩ w := by
  have hl := Lib.run_loadBytesX (P := Tryd.prog) w (x.l.map fun b => (b.toNat : Int)) ⟨b1, 0, none⟩ .empty (fun j v hj => by
    have hjl : j < x.l.length := by simpa using (List.getElem?_eq_some_iff.1 hj).1
    have e : (⟨b1, 0, none⟩ : Addr).add j = ⟨b1, j, none⟩ := by unfold Addr.add; split <;> simp_all
    have := x.h
    rw [e, cell_of_rowAt h1, get_cellsL x j (by omega)]
    simp only [List.getElem?_map, Option.map_eq_some_iff] at hj
    obtain ⟨u, hu, rfl⟩ := hj
    simp [Lab.get, List.getD, hu])
  have e : Lib.bytesOf (x.l.map fun b => (b.toNat : Int)) = x.l := by
    have hid : ((fun n : Int => UInt8.ofNat n.toNat) ∘ fun b : UInt8 => (b.toNat : Int)) = id := by
      funext b
      simp
    simp [Lib.bytesOf, hid]
  rw [e] at hl
  simp only [List.length_map, x.h] at hl
  simp only [Extern.Bytes.bytesOf]
  rw [hl]
  simp
theorem run_compare_rows (w : World) (b1 b2 : Nat) (x y : Lab) (h1 : rowAt w b1 = some (cellsL x)) (h2 : rowAt w b2 = some (cellsL y)) (c d : Nat) :
    (Extern.BytealgCompare.compare #[.slice (some ⟨b1, 0, none⟩) 32 c, .slice (some ⟨b2, 0, none⟩) 32 d]).run Tryd.prog w = .ok (.int .i64 (order x y)) w := by
  have l1 := run_bytes_row w b1 x h1 c
  have l2 := run_bytes_row w b2 y h2 d
  change Sem.run Tryd.prog (do pure (goInt (Extern.BytealgCompare.cmp (← Extern.Bytes.bytesOf (.slice (some ⟨b1, 0, none⟩) 32 c)) (← Extern.Bytes.bytesOf (.slice (some ⟨b2, 0, none⟩) 32 d))))) w = _
  simp only [Sem.run_bind, l1, l2, Result.andThen_ok, Sem.run_pure, Lib.cmp_eq, compare_order]
  rfl
end Go.Proofs.YtpdfchaamedeoaaDoor
