/- A builder that a call has made itself: a byte written on. Conditions: none. -/
import Derived.Test.YthcaolinajfjpaaRead
import Derived.Test.YthcaolinajfjpaaCopy
import Derived.Lib.Builder
import Derived.Shelf.Strings.Builder1
namespace Go.Proofs.Ythcaolinajfjpaa
open Go Go.RowKit

theorem info_byte : (Try.prog.info? 5).map (fun i => (i.zero, i.size, i.bytes)) = some (some (.int .u8 0), 1, 1) := by kernel_rfl

set_option maxHeartbeats 1000000 in
set_option maxRecDepth 100000 in
theorem WriteByte_any (B b : Nat) (bs : List Value) (c : Int) (w : World) (h : Lib.IsBuilder 109 5 B b bs w) (hlen : bs.length < 1000000) (hBw : B ≤ w.heap.size) :
    Calls Try.prog 69 #[.pointer (some ⟨b, 0, none⟩), .int .u8 c] w fun e w' => e = .returned .nilIface ∧ Lib.BuilderAt 109 5 B b (.pointer (some ⟨b, 0, none⟩)) (bs ++ [.int .u8 c]) w' ∧ Below B w w' := by
  obtain ⟨i0, hi, hz0, hz1, hz2⟩ := info_parts info_byte
  go_enter Try.func69, Try.ntmps69
  go_wp2_with fail
  refine (copyCheck_any B b bs _ h).mono ?_
  rintro e w1 ⟨rfl, ⟨hB, v, hrow, hown, hne⟩, hb1⟩
  have s1 := hb1.size
  have c0 := (Lib.cell_of_heap hrow 0).trans (rfl : _ = some (Value.pointer (some ⟨b, 0, none⟩)))
  have c1 := (Lib.cell_of_heap hrow 1).trans (rfl : _ = some v)
  have hlt : b < w1.heap.size := Lib.BuilderAt.lt ⟨hB, v, hrow, hown, hne⟩
  go_wp2_with (at_builtin; refine wpList_append_own _ rfl _ _ 42 rfl B 5 i0 (.int .u8 0) 1 1 Try.underlying42 hi hz0 hz1 hz2 rfl (by decide) v bs.length bs rfl (hown.alloc _) ⟨w1.heap.size, 0, none⟩ 1 1 [.int .u8 c] rfl rfl ?news ?one ?len ?bytes ?base ?_)
  case news =>
    intro j u hj
    cases j with
    | zero => simp at hj; subst hj; simp [Addr.add]
    | succ j => simp at hj
  case one => intro u hu; simp at hu; subst hu; rfl
  case len => unfold maxLen; omega
  case bytes => omega
  case base => simp; omega
  intro v2 w2 hown2 hgrow _
  have hrow2 : w2.heap[b]? = some (.cells #[.pointer (some ⟨b, 0, none⟩), v] 109 (0, 0)) := by
    rw [hgrow.block b (by simp; omega) (fun e => hne e.symm), Lib.alloc_old w1 _ b hlt]
    exact hrow
  have d0 := (Lib.cell_of_heap hrow2 0).trans (rfl : _ = some (Value.pointer (some ⟨b, 0, none⟩)))
  have d1 := (Lib.cell_of_heap hrow2 1).trans (rfl : _ = some v)
  have f1 := Lib.frozen_of_heap hrow2 1
  have hslice : ∃ g cap, v2 = .slice (some ⟨g, 0, none⟩) (bs.length + 1) cap := by
    rcases hown2.2 with ⟨_, h0⟩ | ⟨g, cap, cur, hv, _⟩
    · exact absurd h0 (by omega)
    · exact ⟨g, cap, hv⟩
  obtain ⟨g, cap, rfl⟩ := hslice
  have hput := Lib.BuilderAt.put hB hrow2 (bs' := bs ++ [.int .u8 c]) (v' := .slice (some ⟨g, 0, none⟩) (bs.length + 1) cap) (by simpa using hown2) (by decide)
  have hbel : Below B w (w2.setCell ⟨b, 1, none⟩ (.slice (some ⟨g, 0, none⟩) (bs.length + 1) cap)) := ((hb1.alloc (by omega) _).grown hgrow (by simp; omega) (fun k hk => (hown.lt k hk).1)).setCell (p := ⟨b, 1, none⟩) hB _
  go_wp2_with fail
  go_ret
  exact ⟨rfl, hput, hbel⟩

def hexd (n : Nat) : UInt8 := hexDigits.getD n 0
def hexTo (a : Lab) (k : Nat) : List UInt8 := (List.range k).flatMap fun j => [hexd ((a.get j).toNat / 16), hexd ((a.get j).toNat % 16)]
theorem hexTo_succ (a : Lab) (k : Nat) : hexTo a (k + 1) = hexTo a k ++ [hexd ((a.get k).toNat / 16), hexd ((a.get k).toNat % 16)] := by
  simp [hexTo, List.range_succ]
theorem hexTo_length (a : Lab) (k : Nat) : (hexTo a k).length = 2 * k := by
  induction k with
  | zero => rfl
  | succ k ih => rw [hexTo_succ, List.length_append, ih]; simp; omega

theorem cells_put (l : List UInt8) (c : UInt8) : Lib.byteCells l ++ [.int .u8 c.toNat] = Lib.byteCells (l ++ [c]) := by
  simp [Lib.byteCells]
theorem cells_length (l : List UInt8) : (Lib.byteCells l).length = l.length := by
  simp [Lib.byteCells]

@[go_sem high] theorem run_index_lab (w : World) (a : Lab) (i : Nat) (h : i < 32) : (Instr.index 23 (.agg (cellsL a)) (.int .i64 i)).run Try.prog w = .ok (.int .u8 (a.get i).toNat) w := by
  have g := get_cellsL a i h
  simp [Instr.index, run_underlying Try.underlying23, asIntOf, go_sem]
  rw [if_pos h, g]
  rfl
theorem run_add (w : World) (s t : ByteArray) (h : s.size + t.size < 1000000) : (Op.stringOp .add s t).run Try.prog w = .ok (.string (s ++ t)) w := by
  simp [Op.stringOp, go_sem]
  omega
theorem piece (n : Nat) (h : n < 16) : (⟨#[48, 49, 50, 51, 52, 53, 54, 55, 56, 57, 97, 98, 99, 100, 101, 102]⟩ : ByteArray).extract n (n + 1) = ⟨#[hexd n]⟩ := by
  have : ∀ k : Fin 16, (⟨#[48, 49, 50, 51, 52, 53, 54, 55, 56, 57, 97, 98, 99, 100, 101, 102]⟩ : ByteArray).extract k.val (k.val + 1) = ⟨#[hexd k.val]⟩ := by decide +kernel
  exact this ⟨n, h⟩
theorem pieces (x y : UInt8) : (⟨#[x]⟩ : ByteArray) ++ ⟨#[y]⟩ = ⟨#[x, y]⟩ := rfl
theorem hexTo_put (a : Lab) (i : Nat) : (⟨(hexTo a i).toArray⟩ : ByteArray) ++ ⟨#[hexd ((a.get i).toNat / 16), hexd ((a.get i).toNat % 16)]⟩ = ⟨(hexTo a (i + 1)).toArray⟩ := by
  rw [hexTo_succ]
  exact ByteArray.ext (by simp)
theorem digit_at (n : Nat) (h : n < 16) (h' : n < (⟨#[48, 49, 50, 51, 52, 53, 54, 55, 56, 57, 97, 98, 99, 100, 101, 102]⟩ : ByteArray).size) :
    (⟨#[48, 49, 50, 51, 52, 53, 54, 55, 56, 57, 97, 98, 99, 100, 101, 102]⟩ : ByteArray)[n]'h' = hexd n := by
  have := hex_at n h h'
  unfold hexd
  rw [List.getD_eq_getElem?_getD, this]
  rfl
theorem and_15 : ∀ x : Fin 256, x.val &&& 15 = x.val % 16 := by decide +kernel

set_option maxRecDepth 100000 in
theorem Hex_any (a : Lab) (w : World) : Calls Try.prog 18 #[.agg (cellsL a)] w fun e w' => e = .returned (.string ⟨(hexTo a 32).toArray⟩) ∧ Below w.heap.size w w' := by
  have b0 : Below w.heap.size w ((w.alloc (.cells (cellsL a) 23)).alloc (.cells #[.pointer none, .slice none 0 0] 109)) := ((Below.refl _ _).alloc (Nat.le_refl _) _).alloc (by simp only [World.size_alloc]; omega) _
  have r0 : Lib.IsBuilder 109 5 w.heap.size (w.heap.size + 1) [] ((w.alloc (.cells (cellsL a) 23)).alloc (.cells #[.pointer none, .slice none 0 0] 109)) :=
    .inl ⟨Nat.le_succ _, .slice none 0 0, by rw [show w.heap.size + 1 = (w.alloc (.cells (cellsL a) 23)).heap.size by simp]; exact heap_alloc_new _ _, World.ownsRow_nil _ _ _ _, by simp [Value.ownBlock]⟩
  go_enter Try.func18, Try.ntmps18
  go_wp2_with fail
  generalize (w.alloc (.cells (cellsL a) 23)).alloc (.cells #[.pointer none, .slice none 0 0] 109) = W at *
  go_loopw [7] (fun k wr => ∃ i : Nat, i ≤ 32 ∧ k = .int .i64 i ∧ Lib.IsBuilder 109 5 w.heap.size (w.heap.size + 1) (Lib.byteCells (hexTo a i)) wr ∧ Below w.heap.size w wr) (fun k _ => (32 - intOf k).toNat)
  case atStart => exact ⟨0, by omega, rfl, r0, b0⟩
  case round =>
    obtain ⟨i, hi, rfl, k0, b5⟩ := hrel
    clear r0 b0
    by_cases hlt : i < 32
    · have hlt' : (i : Int) < 32 := by omega
      have g0 := get_cellsL a i hlt
      have hx := (a.get i).toNat_lt
      have hand : bits .and .u8 ((a.get i).toNat : Int) 15 = (((a.get i).toNat % 16 : Nat) : Int) := by
        rw [show (15 : Int) = ((15 : Nat) : Int) from rfl, u8_and_nat _ _ hx (by decide)]
        exact congrArg Int.ofNat (and_15 ⟨_, hx⟩)
      have d1 := digit_at ((a.get i).toNat / 16) (by omega)
      have d2 := digit_at ((a.get i).toNat % 16) (by omega)
      go_wp2_with fail
      refine (WriteByte_any _ _ _ _ _ k0 (by rw [cells_length, hexTo_length]; omega) b5.size).mono ?_
      rintro e w1 ⟨rfl, k1, hb1⟩
      have b6 := b5.trans hb1
      rw [cells_put] at k1
      go_wp2_with fail
      refine (WriteByte_any _ _ _ _ _ (.inr k1) (by rw [cells_length, List.length_append, hexTo_length]; simp; omega) b6.size).mono ?_
      rintro e w2 ⟨rfl, k2, hb2⟩
      have b7 := b6.trans hb2
      rw [cells_put] at k2
      go_wp2_with fail
      go_roundw
      case rel => exact ⟨i + 1, by omega, by go_num, .inr (by rw [hexTo_succ]; simpa using k2), b7⟩
      case measure => simp [intOf]; omega
    · have hlt' : 32 ≤ (i : Int) := by omega
      obtain rfl : i = 32 := by omega
      go_wp2_with fail
      refine (Try.Builder_String w.heap.size (w.heap.size + 1) (hexTo a 32) _ k0 (fun e => by have := hexTo_length a 32; rw [e] at this; cases this)).mono ?_
      rintro e w1 ⟨rfl, hb1⟩
      have b6 := b5.trans hb1
      go_wp2_with fail
      go_ret
      exact ⟨rfl, b6⟩

set_option maxRecDepth 100000 in
theorem rHex_any (a : Lab) (w : World) : Calls Try.prog 19 #[.agg (cellsL a)] w fun e w' => e = .returned (.string ⟨(hexTo a 32).toArray⟩) ∧ Below w.heap.size w w' := by
  have b0 : Below w.heap.size w (w.alloc (.cells (cellsL a) 23)) := (Below.refl _ _).alloc (Nat.le_refl _) _
  have r0 : rowAt (w.alloc (.cells (cellsL a) 23)) w.heap.size = some (cellsL a) := rowAt_alloc_at _ _ _ _ rfl
  go_enter Try.func19, Try.ntmps19
  go_wp2_with fail
  generalize w.alloc (.cells (cellsL a) 23) = W at *
  go_loopw [3, 5] (fun t k wr => ∃ i : Nat, i ≤ 32 ∧ k = .int .i64 i ∧ t = .string ⟨(hexTo a i).toArray⟩ ∧ rowAt wr w.heap.size = some (cellsL a) ∧ Below w.heap.size w wr) (fun _ k _ => (32 - intOf k).toNat)
  case atStart => exact ⟨0, by omega, rfl, rfl, r0, b0⟩
  case round =>
    obtain ⟨i, hi, rfl, rfl, k0, b5⟩ := hrel
    clear r0 b0
    by_cases hlt : i < 32
    · have hlt' : (i : Int) < 32 := by omega
      have hx := (a.get i).toNat_lt
      go_upto_region 5 with fail
      have fa := fun x : Past wr => (cell_of_rowAt (x.row k0) i).trans (get_cellsL a i hlt)
      have e1 := piece ((a.get i).toNat / 16) (by omega)
      have e2 := piece ((a.get i).toNat % 16) (by omega)
      have e3 := pieces (hexd ((a.get i).toNat / 16)) (hexd ((a.get i).toNat % 16))
      have e4 := hexTo_put a i
      have e5 : ((hexTo a i).length : Int) = 2 * i := by rw [hexTo_length]; omega
      refine wp_region_past (by kernel_rfl) (by kernel_rfl) ?_
      repeat (go_big_quiet_step (fail))
      refine wpQuiet_nil ?_
      intro w2 hw2
      obtain ⟨⟨wn, hn⟩, rfl⟩ := hw2
      try dsimp only
      have b6 := below_past b5 hn b5.size
      have k1 := rowAt_past hn k0
      go_wp2_with fail
      go_roundw
      case rel => exact ⟨i + 1, by omega, by go_num, rfl, k1, b6⟩
      case measure => simp [intOf]; omega
    · have hlt' : 32 ≤ (i : Int) := by omega
      obtain rfl : i = 32 := by omega
      go_wp2_with fail
      go_ret
      exact ⟨rfl, b5⟩
end Go.Proofs.Ythcaolinajfjpaa
