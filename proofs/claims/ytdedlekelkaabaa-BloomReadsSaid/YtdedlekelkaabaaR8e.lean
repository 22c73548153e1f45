/- A filter that came in. Conditions: none. -/
import Derived.Test.YtdedlekelkaabaaR8d
import Derived.Test.YtdedlekelkaabaaRow
import Derived.Test.YtdedlekelkaabaaLists
import Derived.ChangeMaps5
namespace Go.Proofs.Ytdedlekelkaabaa
open Go Go.ChangeShapes Go.WideShapes Go.ChangeAt Go.ChangeMaps Go.RowKit

theorem cell_spot {w : World} {a : Addr} {v : Value} (h : w.cell? a = some v) : a.spot = none := by
  unfold World.cell? at h
  split at h
  · split at h
    · cases h
    · rename_i hs
      simpa using hs
  · cases h
/-- A filter that came in. -/
theorem in_filter {H : Type} {enc : TypeId × Value → H} {W : World} {sp : Nat → Bool} {held : Bool} {base : TypeId} {v : Value} {d : DataW H} {p : List MemPlace} (hval : Value.okWide Try.prog W .any base 26 v) (hd : DataW.Trod enc Try.prog W 0 sp held 26 v d p) :
    ∃ (n : Int) (ao : Option Addr) (cap : Nat) (bs : List UInt8), v = .agg #[.int .i64 n, .slice ao bs.length cap] ∧ BytesIn W ao bs ∧ bs.length ≤ cap ∧ (Lit.int .i64 n).wf = true := by
  obtain ⟨cs, rfl⟩ := agg_of_struct Try.underlying26 hval
  obtain ⟨fuel, hf⟩ := hd
  obtain ⟨y0, y1, m, _, hl, h0, h1⟩ := trod_struct2 Try.underlying26 hf
  rw [show Try.prog.cellsOf 26 = 2 by kernel_rfl] at hl
  rw [show Try.prog.cellsOf 3 = 1 by kernel_rfl] at h0
  rw [show Try.prog.cellsOf 24 = 1 by kernel_rfl] at h1
  obtain ⟨n, e1, _, e3⟩ := DataW.trod_int Try.underlying3 h0
  obtain ⟨l⟩ := cs
  match l, hl with
  | [x, y], _ =>
    have ex : x = .int .i64 n := by simpa [Value.cells] using e1
    subst ex
    rcases open_ints Try.underlying24 Try.underlying5 cellsOf_u8 h1 with ⟨h, _⟩ | ⟨a, len, cap, zs, hcs, _, hl1, hm, hz, _, hx, hw⟩
    · have ey : y = .slice none 0 0 := by simpa [Value.cells] using h
      subst ey
      exact ⟨n, none, 0, [], rfl, fun i hi => absurd hi (Nat.not_lt_zero i), Nat.le_refl _, e3⟩
    · have ey : y = .slice (some a) len cap := by simpa [Value.cells] using hcs
      subst ey
      have hlz : len ≤ zs.length := by rw [hz]; split <;> omega
      have hbl : ((zs.take len).map fun z => UInt8.ofNat z.toNat).length = len := by rw [List.length_map, List.length_take]; omega
      refine ⟨n, some a, cap, (zs.take len).map fun z => UInt8.ofNat z.toNat, by rw [hbl], fun i hi => ?_, by rw [hbl]; exact hl1, e3⟩
      rw [hbl] at hi
      have h2 := hx i (by omega)
      have hs := cell_spot (hx 0 (by omega))
      have ha : a = ⟨a.block, a.off, none⟩ := by
        have : a.spot = none := by
          have e0 : a.add 0 = a := by simp [Addr.add]
          rwa [e0] at hs
        rw [← this]
      refine ⟨a.block, a.off, congrArg some ha, ?_⟩
      have hadd : a.add i = ⟨a.block, a.off + i, none⟩ := by
        rw [ha]
        simp [Addr.add]
      rw [hadd] at h2
      rw [h2]
      obtain ⟨w0, w1⟩ := wf_u8 (hw (zs.getD i 0) (by
        rw [List.getD_eq_getElem?_getD, List.getElem?_eq_getElem (by omega)]
        exact List.getElem_mem (by omega)))
      have hg : ((zs.take len).map fun z => UInt8.ofNat z.toNat).getD i 0 = UInt8.ofNat (zs.getD i 0).toNat := by
        simp [List.getD_eq_getElem?_getD, List.getElem?_map, List.getElem?_take, hi, List.getElem?_eq_getElem (show i < zs.length by omega)]
      rw [hg]
      exact congrArg (fun z => some (Value.int .u8 z)) (byte_of_int w0 (by omega)).symm
theorem BytesIn.take {w : World} {ao : Option Addr} {bs : List UInt8} (h : BytesIn w ao bs) (n : Nat) : BytesIn w ao (bs.take n) := fun i hi => by
  rw [List.length_take] at hi
  obtain ⟨g, o, h1, h2⟩ := h i (by omega)
  refine ⟨g, o, h1, ?_⟩
  rw [h2]
  simp [List.getD_eq_getElem?_getD, List.getElem?_take, show i < n by omega]
end Go.Proofs.Ytdedlekelkaabaa
