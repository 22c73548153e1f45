/- A journal beside lists of the call's own. Conditions: none. -/
import Derived.Test.YtlhdnkfnhdkbkaaGreatDoorJour6
import Derived.Deep.Grids
namespace Go.Proofs.YtlhdnkfnhdkbkaaGreatDoor
open Go Go.ChangeShapes Go.WideShapes Go.ChangeAt Go.ChangeMaps Go.RowKit

/-- A list of flags that came in. -/
def InFlags (w : World) (v : Value) (len : Nat) (Z : Nat → Bool) : Prop :=
  ∃ ao cap, v = .slice ao len cap ∧ ∀ i, i < len → ∃ a, ao = some a ∧ w.cell? (a.add i) = some (.bool (Z i))
theorem in_flags {P : Program} {H : Type} {enc : TypeId × Value → H} {W : World} {held : Bool} {base t e : TypeId} {v : Value} {d : DataW H} {p : List MemPlace} (ht : P.underlying t = some (.slice e)) (he : P.underlying e = some .bool) (ce : P.cellsOf e = 1) (hval : Value.okWide P W .any base t v) (hd : DataW.Trod enc P W 0 (fun _ => true) held t v d p) :
    ∃ (len : Nat) (Z : Nat → Bool), InFlags W v len Z := by
  obtain ⟨ao, len, cap, rfl⟩ := okWide_slice ht hval
  obtain ⟨fuel, hf⟩ := hd
  rcases Deep.open_bools ht he ce hf with ⟨h, _⟩ | ⟨a, len', cap', Z, hcs, _, hl, hm, _, hx⟩
  · have hc : ao = none ∧ len = 0 ∧ cap = 0 := by simpa [Value.cells] using h
    obtain ⟨rfl, rfl, rfl⟩ := hc
    exact ⟨0, fun _ => false, none, 0, rfl, fun i hi => absurd hi (Nat.not_lt_zero i)⟩
  · have hc : (ao = some a ∧ len = len' ∧ cap = cap') := by simpa [Value.cells] using hcs
    obtain ⟨rfl, rfl, rfl⟩ := hc
    exact ⟨len, Z, some a, cap, rfl, fun i hi => ⟨a, rfl, hx i (by omega)⟩⟩
theorem cellsOf_flag : Tryz.prog.cellsOf 4 = 1 := by kernel_rfl
/-- A disk beside a list of texts that grows. -/
theorem disk_aside {B C b n : Nat} {d : DDisk} {w w' : World} {v : Value} {xs : List Value} (h : DiskAt B b d w) (ho : w.ownsRow C 9 1 v n xs) (hg : w.grownBy w' v.ownBlock) : DiskAt B b d w' := by
  obtain ⟨m, left, D, G, V, h⟩ := h
  obtain ⟨es, c, hm⟩ := mapBlk h.map
  refine ⟨m, left, D, G, V, ⟨(hg.block b (dHeap_lt h.row) (fun e => ?_)).trans h.row, h.fuse, h.map.kept hg (fun e => ?_), h.is, h.sorted, fun f hf => (h.file f hf).kept hg (fun e => ?_) ?_, h.apart, h.low, h.room, h.left_⟩⟩
  · exact own_ne ho h.row (by decide) e.symm
  · obtain ⟨cs, hk, _⟩ := own_blk ho e.symm
    exact blk_ne_map hk hm rfl
  · exact own_ne ho (h.file f hf).row (by decide) e.symm
  · cases hv : v.ownBlock with
    | none => cases (V f.name).ownBlock <;> simp
    | some k =>
      obtain ⟨cs, hk, _⟩ := own_blk ho hv
      exact .inr (own_ne (h.file f hf).own hk (by decide))
variable {B q j : Nat} {room : Int} {pre : List Seg} {now : Nat} {cur want : List (List UInt8)} {d : DDisk} {W w : World}
theorem JW.aside {n : Nat} {w' : World} {v : Value} {xs : List Value} (h : JW B q j room pre now cur want d W w) (ho : w.ownsRow B 9 1 v n xs) (hg : w.grownBy w' v.ownBlock) : JW B q j room pre now cur want d W w' :=
  ⟨h.js, h.ja.aside ho jr_ne_str hg, disk_aside h.da ho hg, h.bel.grown hg h.low (fun k hk => (World.ownsRow.lt ho k hk).1), h.tab, h.hB, h.cap, h.few⟩
end Go.Proofs.YtlhdnkfnhdkbkaaGreatDoor
