/- Texts that the next ones stand on: Copy, Builder, Code1, Bloom1, Bloom2, Bloom3, Bloom4, BloomMath, FiltKit, Tabs, TabsJ. -/
import Derived.Test.YtlhdnkfnhdkbkaaGreatDoorJf4
import Derived.Test.YtlhdnkfnhdkbkaaGreatDoorRows
import Derived.WalkLawsBesides
import Derived.Lib.Builder
import Derived.Lib.OthersKept
import Derived.Shelf.Strings.Builder1
import Derived.Laws.IdiomStrings
import Derived.Laws.BytesArg
import Derived.Lib.BitFns
import Derived.Laws.BitsAllLaws
import Derived.RangeFuncNested
import Derived.RangeFuncBound
import Derived.RangeFuncCalls
import Derived.RangeFuncLeaves
import Derived.Shelf.Abstract
import Derived.Shelf.RegionOpen
import Derived.WalkKit
import Derived.OwnWalkIn
import Derived.TacticsInMore
import Derived.LoopNIn
import Derived.LoopIn
import Derived.RangeFuncFrom
import Derived.RangeFuncWrites
import Derived.LaidMore
import Derived.Stop.Joined
import Derived.ChangeMaps5
namespace Go.Proofs.YtlhdnkfnhdkbkaaGreatDoor
open Go Go.RowKit

theorem size_builder : (Tryz.prog.info? 101).map (·.size) = some 2 := by kernel_rfl

set_option maxRecDepth 100000 in
theorem copyCheck_used (b : Nat) (w : World) (h0 : w.cell? ⟨b, 0, none⟩ = some (.pointer (some ⟨b, 0, none⟩))) :
    Calls Tryz.prog 78 #[.pointer (some ⟨b, 0, none⟩)] w fun e w' => e = .returned (.tuple #[]) ∧ w' = w := by
  obtain ⟨j, hj, _⟩ := Option.map_eq_some_iff.1 size_builder
  go_enter Tryz.func78, Tryz.ntmps78
  go_wp2_with fail
  rw [Lib.run_neq_ptr_same w _ Tryz.underlying99 hj]
  go_wp2_with fail
  go_end0
  exact ⟨rfl, rfl⟩

set_option maxRecDepth 100000 in
theorem copyCheck_fresh (b : Nat) (w : World) (h0 : w.cell? ⟨b, 0, none⟩ = some (.pointer none)) (hsh : w.shape? b = some (101, 2)) (hfz : w.frozen? ⟨b, 0, none⟩ = false) :
    Calls Tryz.prog 78 #[.pointer (some ⟨b, 0, none⟩)] w fun e w' => e = .returned (.tuple #[]) ∧ w' = w.setCell ⟨b, 0, none⟩ (.pointer (some ⟨b, 0, none⟩)) := by
  obtain ⟨j, hj, hjs⟩ := Option.map_eq_some_iff.1 size_builder
  go_enter Tryz.func78, Tryz.ntmps78
  go_wp2_with fail
  rw [Lib.run_to_unsafe w ⟨b, 0, none⟩ Tryz.underlying99 Tryz.underlying134 hj (by rw [hjs]; decide) hsh (Nat.zero_lt_succ 1)]
  simp only [Result.andThen]
  rw [Oper.upon_value]
  go_wp2_with fail
  rw [run_callFunc_extern Tryz.func91 (by kernel_rfl) (by kernel_rfl) (by kernel_rfl) (e := Extern.AbiNoEscape.same) (by kernel_rfl)]
  rw [Lib.run_noEscape]
  simp only [Result.andThen]
  rw [Oper.upon_value]
  go_wp2_with fail
  rw [Lib.run_from_unsafe w ⟨b, 0, none⟩ Tryz.underlying134 Tryz.underlying99 hj hsh (by kernel_rfl)]
  simp only [Result.andThen]
  rw [Oper.upon_value]
  go_wp2_with fail
  go_end0
  exact ⟨rfl, rfl⟩

theorem copyCheck_any (B b : Nat) (bs : List Value) (w : World) (h : Lib.IsBuilder 101 5 B b bs w) :
    Calls Tryz.prog 78 #[.pointer (some ⟨b, 0, none⟩)] w fun e w' => e = .returned (.tuple #[]) ∧ Lib.BuilderAt 101 5 B b (.pointer (some ⟨b, 0, none⟩)) bs w' ∧ Below B w w' := by
  rcases h with h | h
  · refine (copyCheck_fresh b w h.cell0 h.shape h.frozen0).mono ?_
    rintro e w' ⟨rfl, rfl⟩
    exact ⟨rfl, h.used _, (Below.refl B w).setCell (p := ⟨b, 0, none⟩) h.1 _⟩
  · refine (copyCheck_used b w h.cell0).mono ?_
    rintro e w' ⟨rfl, rfl⟩
    exact ⟨rfl, h, Below.refl B _⟩

end Go.Proofs.YtlhdnkfnhdkbkaaGreatDoor
namespace Go.Proofs.YtlhdnkfnhdkbkaaGreatDoor
open Go Go.RowKit

theorem info_byte : (Tryz.prog.info? 5).map (fun i => (i.zero, i.size, i.bytes)) = some (some (.int .u8 0), 1, 1) := by kernel_rfl

def hexd (n : Nat) : UInt8 := hexDigits.getD n 0
def hexTo (a : Lab) (k : Nat) : List UInt8 := (List.range k).flatMap fun j => [hexd ((a.get j).toNat / 16), hexd ((a.get j).toNat % 16)]
theorem hexTo_succ (a : Lab) (k : Nat) : hexTo a (k + 1) = hexTo a k ++ [hexd ((a.get k).toNat / 16), hexd ((a.get k).toNat % 16)] := by
  simp [hexTo, List.range_succ]
theorem hexTo_length (a : Lab) (k : Nat) : (hexTo a k).length = 2 * k := by
  induction k with
  | zero => rfl
  | succ k ih => rw [hexTo_succ, List.length_append, ih]; simp; omega

theorem cells_put (l : List UInt8) (c : UInt8) : Lib.byteCells l ++ [.int .u8 c.toNat] = Lib.byteCells (l ++ [c]) := by
  simp [Lib.byteCells]
theorem cells_length (l : List UInt8) : (Lib.byteCells l).length = l.length := by
  simp [Lib.byteCells]

theorem run_add (w : World) (s t : ByteArray) (h : s.size + t.size < 1000000) : (Op.stringOp .add s t).run Tryz.prog w = .ok (.string (s ++ t)) w := by
  simp [Op.stringOp, go_sem]
  omega
theorem piece (n : Nat) (h : n < 16) : (⟨#[48, 49, 50, 51, 52, 53, 54, 55, 56, 57, 97, 98, 99, 100, 101, 102]⟩ : ByteArray).extract n (n + 1) = ⟨#[hexd n]⟩ := by
  have : ∀ k : Fin 16, (⟨#[48, 49, 50, 51, 52, 53, 54, 55, 56, 57, 97, 98, 99, 100, 101, 102]⟩ : ByteArray).extract k.val (k.val + 1) = ⟨#[hexd k.val]⟩ := by decide +kernel
  exact this ⟨n, h⟩
theorem pieces (x y : UInt8) : (⟨#[x]⟩ : ByteArray) ++ ⟨#[y]⟩ = ⟨#[x, y]⟩ := rfl
theorem hexTo_put (a : Lab) (i : Nat) : (⟨(hexTo a i).toArray⟩ : ByteArray) ++ ⟨#[hexd ((a.get i).toNat / 16), hexd ((a.get i).toNat % 16)]⟩ = ⟨(hexTo a (i + 1)).toArray⟩ := by
  rw [hexTo_succ]
  exact ByteArray.ext (by simp)
theorem digit_at (n : Nat) (h : n < 16) (h' : n < (⟨#[48, 49, 50, 51, 52, 53, 54, 55, 56, 57, 97, 98, 99, 100, 101, 102]⟩ : ByteArray).size) :
    (⟨#[48, 49, 50, 51, 52, 53, 54, 55, 56, 57, 97, 98, 99, 100, 101, 102]⟩ : ByteArray)[n]'h' = hexd n := by
  have := hex_at n h h'
  unfold hexd
  rw [List.getD_eq_getElem?_getD, this]
  rfl
theorem and_15 : ∀ x : Fin 256, x.val &&& 15 = x.val % 16 := by decide +kernel

end Go.Proofs.YtlhdnkfnhdkbkaaGreatDoor
namespace Go.Proofs.YtlhdnkfnhdkbkaaGreatDoor
open Go Go.RowKit

/-- Block k holds no bytes. -/
def NoBytes (w : World) (k : Nat) : Prop := ∀ cs fr, w.heap[k]? ≠ some (.cells cs 5 fr)
/-- Below block B the world is as it was, but for block b; and so are all blocks that hold no bytes. -/
structure Near (B b : Nat) (w w' : World) : Prop where
  os : w'.os = w.os
  tape : w'.tape = w.tape
  output : w'.output = w.output
  size : w.heap.size ≤ w'.heap.size
  block : ∀ k, k < B → k ≠ b → w'.heap[k]? = w.heap[k]?
  far : ∀ k, k < w.heap.size → k ≠ b → NoBytes w k → w'.heap[k]? = w.heap[k]?
theorem Near.refl (B b : Nat) (w : World) : Near B b w w := ⟨rfl, rfl, rfl, Nat.le_refl _, fun _ _ _ => rfl, fun _ _ _ _ => rfl⟩
theorem Near.trans {B b : Nat} {a w w' : World} (h : Near B b a w) (k : Near B b w w') : Near B b a w' :=
  ⟨k.os.trans h.os, k.tape.trans h.tape, k.output.trans h.output, Nat.le_trans h.size k.size, fun i hi hn => (k.block i hi hn).trans (h.block i hi hn), fun i hi hn hb => by
    have e := h.far i hi hn hb
    refine (k.far i (Nat.lt_of_lt_of_le hi h.size) hn fun cs fr => ?_).trans e
    rw [e]
    exact hb cs fr⟩
theorem Near.mono {B C b : Nat} {w w' : World} (h : Near B b w w') (hC : C ≤ B) : Near C b w w' := ⟨h.os, h.tape, h.output, h.size, fun k hk => h.block k (Nat.lt_of_lt_of_le hk hC), h.far⟩
theorem _root_.Go.RowKit.Below.near {B b : Nat} {w w' : World} (h : Below w.heap.size w w') (hB : B ≤ w.heap.size) : Near B b w w' := ⟨h.os, h.tape, h.output, h.size, fun k hk _ => h.block k (Nat.lt_of_lt_of_le hk hB), fun k hk _ _ => h.block k hk⟩
theorem Near.setCell {B b : Nat} {a w : World} (h : Near B b a w) {p : Addr} (hp : p.block = b) (u : Value) : Near B b a (w.setCell p u) :=
  h.trans ⟨rfl, rfl, rfl, by simp [World.setCell], fun k _ hn => Below.heap_setCell _ _ _ _ (by omega), fun k _ hn _ => Below.heap_setCell _ _ _ _ (by omega)⟩
theorem Near.setRow {B b : Nat} {a w : World} (h : Near B b a w) {g : Nat} (hg : B ≤ g) (ha : a.heap.size ≤ g) (c : Array Value) : Near B b a (w.setRow g c) :=
  ⟨h.os, h.tape, h.output, by simpa using h.size, fun k hk hn => (setRow_other w g k c (by omega)).trans (h.block k hk hn), fun k hk hn hb => (setRow_other w g k c (by omega)).trans (h.far k hk hn hb)⟩
/-- Below both it is as it was. -/
theorem Near.below {B b C : Nat} {w w' : World} (h : Near B b w w') (hB : C ≤ B) (hb : C ≤ b) : Below C w w' :=
  ⟨h.os, h.tape, h.output, h.size, fun k hk => h.block k (by omega) (by omega)⟩
theorem Near.row {B b k : Nat} {w w' : World} (h : Near B b w w') (hk : k < B) (hn : k ≠ b) : rowAt w' k = rowAt w k := by
  unfold rowAt
  rw [h.block k hk hn]
theorem Near.grown {B b : Nat} {w w' : World} {v : Value} {n : Nat} {xs : List Value} (ho : w.ownsRow B 5 1 v n xs) (hg : w.grownBy w' v.ownBlock) (hB : B ≤ w.heap.size) : Near B b w w' :=
  ⟨hg.os, hg.tape, hg.output, hg.size, fun k hk _ => hg.block k (by omega) (fun e => by have := (ho.lt k e.symm).1; omega), fun k hk _ hb => hg.block k hk (fun e => by
    rcases ho.2 with ⟨h1, _⟩ | ⟨g, cap, cur, h1, _, h3, _⟩
    · rw [h1] at e; cases e
    · rw [h1] at e
      have : k = g := by simpa [Value.ownBlock] using e
      subst this
      exact hb _ _ h3)⟩

theorem heap_put {w : World} {b j : Nat} {cs : Array Value} {T : TypeId} {fr : Nat × Nat} (h : w.heap[b]? = some (.cells cs T fr)) (x : Value) : (w.setCell ⟨b, j, none⟩ x).heap[b]? = some (.cells (cs.setIfInBounds j x) T fr) := by
  simp [World.setCell, Array.getElem?_modify, h]
theorem heap_lt {w : World} {b : Nat} {o : Obj} (h : w.heap[b]? = some o) : b < w.heap.size := (Array.getElem?_eq_some_iff.1 h).1

theorem cells_str (s : ByteArray) : Lib.strCells s = Lib.byteCells s.data.toList := by
  simp [Lib.strCells, Lib.byteCells]
theorem cells_append (l m : List UInt8) : Lib.byteCells (l ++ m) = Lib.byteCells l ++ Lib.byteCells m := by
  simp [Lib.byteCells]

/-- What add makes of the bytes. -/
def added (bs : List UInt8) (err : Int) (s : List UInt8) : List UInt8 := if err = 0 ∧ bs.length ≤ 65536 then bs ++ s else bs
set_option maxRecDepth 100000 in
theorem run_own_string (w : World) (B : Nat) (ao : Option Addr) (cap : Nat) (l : List UInt8) (h : w.ownsRow B 5 1 (.slice ao l.length cap) l.length (Lib.byteCells l)) :
    (convert 51 9 (.slice ao l.length cap)).run Tryz.prog w = .ok (.string ⟨l.toArray⟩) w := by
  rcases h.2 with ⟨hv, h0⟩ | ⟨g, cap', cur, hv, _⟩
  · have : l = [] := List.eq_nil_of_length_eq_zero h0
    subst this
    injection hv with e1 _ e2
    subst e1 e2
    exact run_convert_bytes_nil w _ _ Tryz.underlying51 Tryz.underlying5 _ _ _ Tryz.underlying9
  · injection hv with e1 _ e2
    subst e1 e2
    refine run_convert_bytes_back w _ _ _ ⟨g, 0, none⟩ _ l Tryz.underlying51 Tryz.underlying5 Tryz.underlying9 fun j hj => ?_
    exact h.cells (g := g) rfl j _ (by simp [Lib.byteCells, hj])

def numCell (n k i j : Nat) : Nat := if j < k ∧ k - 1 - j < i then n / 256 ^ (k - 1 - j) % 256 else 0
def numRow (n k i : Nat) : Array Value := (Value.int .u8 k :: (List.range 8).map fun j => Value.int .u8 (numCell n k i j)).toArray
theorem numRow_zero (n k : Nat) : numRow n k 0 = #[.int .u8 k, .int .u8 0, .int .u8 0, .int .u8 0, .int .u8 0, .int .u8 0, .int .u8 0, .int .u8 0, .int .u8 0] := by
  simp [numRow, numCell, List.range_succ]
theorem numRow_put (n k i : Nat) (hk : k ≤ 8) (hi : i < k) : (numRow n k i).setIfInBounds (k - i) (.int .u8 ((n / 256 ^ i % 256 : Nat) : Int)) = numRow n k (i + 1) := by
  apply Array.ext_getElem?
  intro j
  rw [Array.getElem?_setIfInBounds]
  unfold numRow
  by_cases e : k - i = j
  · subst e
    obtain ⟨q, hq⟩ : ∃ q, k - i = q + 1 := ⟨k - i - 1, by omega⟩
    have h1 : q < 8 := by omega
    have h2 : numCell n k (i + 1) q = n / 256 ^ i % 256 := by
      rw [numCell, if_pos (by omega), show k - 1 - q = i by omega]
    simp [hq, h1, h2]
  · rw [if_neg e]
    cases j with
    | zero => simp
    | succ j =>
      by_cases h1 : j < 8
      · have h2 : numCell n k (i + 1) j = numCell n k i j := by
          have h3 : (j < k ∧ k - 1 - j < i + 1) ↔ (j < k ∧ k - 1 - j < i) := by omega
          simp only [numCell, h3]
        simp [h1, h2]
      · simp [h1]
theorem numRow_get (n k i d : Nat) (h0 : 0 < d) (h1 : d < 9) : (numRow n k i)[d]? = some (.int .u8 (numCell n k i (d - 1))) := by
  obtain ⟨q, rfl⟩ : ∃ q, d = q + 1 := ⟨d - 1, by omega⟩
  have : q < 8 := by omega
  simp [numRow, this]
def numLen (n : Nat) : Nat := (Lib.bitLen n + 7) / 8
def numBytes (n : Nat) : List UInt8 := UInt8.ofNat (numLen n) :: (List.range (numLen n)).map fun j => UInt8.ofNat (n / 256 ^ (numLen n - 1 - j))
theorem numLen_le (n : Nat) (h : n < 9223372036854775808) : numLen n ≤ 8 := by
  have := Lib.bitLen_le n 64 (by omega) (by omega)
  unfold numLen
  omega
theorem numBytes_length (n : Nat) : (numBytes n).length = numLen n + 1 := by simp [numBytes]

theorem numRow_bytes (n k : Nat) (hk : numLen n = k) (hk8 : k ≤ 8) (j : Nat) (hj : j < (numBytes n).length) : (numRow n k k)[j]? = some (.int .u8 ((numBytes n)[j].toNat : Int)) := by
  subst hk
  rw [numBytes_length] at hj
  cases j with
  | zero =>
    have : numLen n % 256 = numLen n := by omega
    simp [numRow, numBytes, this]
  | succ j =>
    have h1 : j < 8 := by omega
    have h2 : numCell n (numLen n) (numLen n) j = n / 256 ^ (numLen n - 1 - j) % 256 := by rw [numCell, if_pos (by omega)]
    simp [numRow, numBytes, h1, h2]

end Go.Proofs.YtlhdnkfnhdkbkaaGreatDoor
namespace Go.Proofs.YtlhdnkfnhdkbkaaGreatDoor
open Go Go.RowKit

/-- A word of 64 bits as it lies in a cell. -/
def qv (x : UInt64) : Int := (x.toNat : Int)
theorem q_lt (x : UInt64) : qv x < 2 ^ 64 := by have := x.toNat_lt; unfold qv; omega
theorem q_ge (x : UInt64) : 0 ≤ qv x := Int.natCast_nonneg _
theorem q_xor (x y : UInt64) : bits .xor .u64 (qv x) (qv y) = qv (x ^^^ y) := by
  unfold qv
  show IntKind.u64.wrap ((BitVec.ofInt 64 (x.toNat : Int) ^^^ BitVec.ofInt 64 (y.toNat : Int)).toNat : Int) = _
  rw [BitVec.toNat_xor, ofInt_u64 _ x.toNat_lt, ofInt_u64 _ y.toNat_lt]
  show ((x.toNat ^^^ y.toNat : Nat) : Int) % 2 ^ IntKind.u64.bits = _
  have hx : x.toNat ^^^ y.toNat < 2 ^ 64 := Nat.xor_lt_two_pow x.toNat_lt y.toNat_lt
  rw [UInt64.toNat_xor, show (2 : Int) ^ IntKind.u64.bits = 18446744073709551616 from rfl]
  omega
theorem q_or (x y : UInt64) : bits .or .u64 (qv x) (qv y) = qv (x ||| y) := by
  unfold qv
  show IntKind.u64.wrap ((BitVec.ofInt 64 (x.toNat : Int) ||| BitVec.ofInt 64 (y.toNat : Int)).toNat : Int) = _
  rw [BitVec.toNat_or, ofInt_u64 _ x.toNat_lt, ofInt_u64 _ y.toNat_lt]
  show ((x.toNat ||| y.toNat : Nat) : Int) % 2 ^ IntKind.u64.bits = _
  have hx : x.toNat ||| y.toNat < 2 ^ 64 := Nat.or_lt_two_pow x.toNat_lt y.toNat_lt
  rw [UInt64.toNat_or, show (2 : Int) ^ IntKind.u64.bits = 18446744073709551616 from rfl]
  omega
theorem q_mul (x y : UInt64) : qv x * qv y % 18446744073709551616 = qv (x * y) := by
  unfold qv
  rw [UInt64.toNat_mul]
  have : ((x.toNat * y.toNat : Nat) : Int) = (x.toNat : Int) * (y.toNat : Int) := Int.natCast_mul _ _
  omega
theorem q_add (x y : UInt64) : (qv x + qv y) % 18446744073709551616 = qv (x + y) := by
  unfold qv
  rw [UInt64.toNat_add]
  omega
theorem q_mulw (x y : UInt64) : IntKind.u64.wrap (qv x * qv y) = qv (x * y) := by
  show (qv x * qv y) % 2 ^ IntKind.u64.bits = _
  rw [show (2 : Int) ^ IntKind.u64.bits = 18446744073709551616 from rfl]
  exact q_mul x y
theorem q_addw (x y : UInt64) : IntKind.u64.wrap (qv x + qv y) = qv (x + y) := by
  show (qv x + qv y) % 2 ^ IntKind.u64.bits = _
  rw [show (2 : Int) ^ IntKind.u64.bits = 18446744073709551616 from rfl]
  exact q_add x y
theorem q_shr (x : UInt64) (k : Nat) (hk : k < 64) : qv x / (2 ^ k : Nat) = qv (x >>> UInt64.ofNat k) := by
  show (x.toNat : Int) / (2 ^ k : Nat) = ((x >>> UInt64.ofNat k).toNat : Int)
  rw [UInt64.toNat_shiftRight, UInt64.toNat_ofNat', Nat.mod_eq_of_lt (show k < 2 ^ 64 by omega), Nat.mod_eq_of_lt hk, Nat.shiftRight_eq_div_pow]
  rfl
theorem q_byte (c : UInt8) : qv (UInt64.ofNat c.toNat) = (c.toNat : Int) := by
  unfold qv
  rw [UInt64.toNat_ofNat', Nat.mod_eq_of_lt (by have := c.toNat_lt; omega)]
def h0 : UInt64 := 14695981039346656037
def hm : UInt64 := 1099511628211
def hn : UInt64 := 13787848793156543929
def hstep (h : UInt64) (c : UInt8) : UInt64 := (h ^^^ UInt64.ofNat c.toNat) * hm
def hfin (h : UInt64) : UInt64 := let a := (h ^^^ (h >>> UInt64.ofNat 29)) * hn; a ^^^ (a >>> UInt64.ofNat 32)
def hashL (l : List UInt8) : UInt64 := hfin (l.foldl hstep h0)
theorem hash_step (l : List UInt8) (s : ByteArray) (i : Nat) (hs : s.data.toList = l) (hi : i < s.size) : (l.take (i + 1)).foldl hstep h0 = hstep ((l.take i).foldl hstep h0) (at_ s i) := by
  subst hs
  have hl : i < s.data.toList.length := hi
  have hat2 : s.data.toList[i] = at_ s i := by
    unfold at_
    rw [List.getD_eq_getElem?_getD, List.getElem?_eq_getElem hl]
    rfl
  rw [List.take_succ_eq_append_getElem hl, List.foldl_append, hat2]
  rfl
theorem hash_round (H : UInt64) (c : UInt8) : IntKind.u64.wrap (bits .xor .u64 (qv H) (c.toNat : Int) * 1099511628211) = qv (hstep H c) := by
  rw [← q_byte, q_xor, show (1099511628211 : Int) = qv hm from rfl, q_mulw]
  rfl
theorem hash_end1 (H : UInt64) : bits .xor .u64 (qv H) (qv H / 536870912) = qv (H ^^^ (H >>> UInt64.ofNat 29)) := by
  have := q_shr H 29 (by decide)
  rw [show ((2 ^ 29 : Nat) : Int) = 536870912 from rfl] at this
  rw [this, q_xor]
theorem hash_end2 (H : UInt64) : IntKind.u64.wrap (qv H * 13787848793156543929) = qv (H * hn) := by
  rw [show (13787848793156543929 : Int) = qv hn from rfl, q_mulw]
theorem hash_end3 (H : UInt64) : bits .xor .u64 (qv H) (qv H / 4294967296) = qv (H ^^^ (H >>> UInt64.ofNat 32)) := by
  have := q_shr H 32 (by decide)
  rw [show ((2 ^ 32 : Nat) : Int) = 4294967296 from rfl] at this
  rw [this, q_xor]
set_option maxRecDepth 100000 in
theorem bHash_any (s : ByteArray) (w : World) (hs : s.size ≤ 281474976710656) :
    Calls Tryz.prog 62 #[.string s] w fun e w' => e = .returned (.int .u64 (qv (hashL s.data.toList))) ∧ w' = w := by
  have hsz : (s.size : Int) ≤ 281474976710656 := by omega
  obtain ⟨V, hVV⟩ : ∃ V, hashL s.data.toList = V := ⟨_, rfl⟩
  rw [hVV]
  have HVV := Lib.hid hVV
  clear hs hVV
  go_enter Tryz.func62, Tryz.ntmps62
  go_wp2_with fail
  go_loop [3, 7] (fun h x => ∃ i : Nat, i ≤ s.size ∧ x = .int .i64 i ∧ Hid (h = .int .u64 (qv ((s.data.toList.take i).foldl hstep h0)))) (fun _ x => (s.size - intOf x).toNat)
  case atStart => exact ⟨0, Nat.zero_le _, rfl, Lib.hid rfl⟩
  case round =>
    obtain ⟨i, hi, rfl, HX⟩ := hrel
    have hx := HX.out
    subst hx
    by_cases hlt : i < s.size
    · have hlt' : (i : Int) < s.size := by omega
      have hat := get_at s i hlt
      have HS := Lib.hid (hash_step s.data.toList s i rfl hlt)
      generalize (s.data.toList.take i).foldl hstep h0 = H at *
      have hcb : ((at_ s i).toNat : Int) < 256 := by have := (at_ s i).toNat_lt; omega
      have hca : (0 : Int) ≤ ((at_ s i).toNat : Int) := Int.natCast_nonneg _
      have hr := hash_round H (at_ s i)
      clear HX
      go_wp2_with fail
      exact ⟨⟨i + 1, hlt, by go_num, Lib.hid (by rw [HS.out])⟩, by simp [intOf]; omega⟩
    · obtain rfl : i = s.size := by omega
      have HF : Hid (hfin ((s.data.toList.take s.size).foldl hstep h0) = V) := Lib.hid (by
        rw [show s.data.toList.take s.size = s.data.toList from List.take_of_length_le (Nat.le_refl _)]
        exact HVV.out)
      generalize (s.data.toList.take s.size).foldl hstep h0 = H at *
      have e1 := hash_end1 H
      obtain ⟨A1, hA1⟩ : ∃ A1, H ^^^ (H >>> UInt64.ofNat 29) = A1 := ⟨_, rfl⟩
      rw [hA1] at e1
      have e2 := hash_end2 A1
      obtain ⟨A2, hA2⟩ : ∃ A2, A1 * hn = A2 := ⟨_, rfl⟩
      rw [hA2] at e2
      have e3 := hash_end3 A2
      have hV : A2 ^^^ (A2 >>> UInt64.ofNat 32) = V := by
        rw [← HF.out, hfin, hA1, hA2]
      rw [hV] at e3
      have g1 := q_ge H
      have g2 := q_ge A2
      clear HX HF hA1 hA2 hV
      go_wp2_with fail
      go_ret
      exact ⟨rfl, rfl⟩
end Go.Proofs.YtlhdnkfnhdkbkaaGreatDoor
namespace Go.Proofs.YtlhdnkfnhdkbkaaGreatDoor
open Go Go.RowKit Go.Shelf
attribute [local go_sem] Oper.semAt_some

/-- How far from place to place. -/
def strideQ (H : UInt64) : UInt64 := (H >>> UInt64.ofNat 32) ||| 1
/-- Place number i of a key with hash H among m bits. -/
def plQ (H : UInt64) (m i : Nat) : UInt64 := (H + UInt64.ofNat i * strideQ H) % UInt64.ofNat m
theorem plQ_lt (H : UInt64) (m i : Nat) (h : 0 < m ∧ m < 2 ^ 64) : (plQ H m i).toNat < m := by
  unfold plQ
  rw [UInt64.toNat_mod, UInt64.toNat_ofNat', Nat.mod_eq_of_lt h.2]
  exact Nat.mod_lt _ h.1
/-- A place among m. -/
abbrev PlT (m : Nat) : Type := { x : UInt64 // x.toNat < m }
def plT (H : UInt64) (m : Nat) (h : 0 < m ∧ m < 2 ^ 64) (i : Nat) : PlT m := ⟨plQ H m i, plQ_lt H m i h⟩
def plsT (H : UInt64) (m : Nat) (h : 0 < m ∧ m < 2 ^ 64) (p : Nat) : List (PlT m) := (List.range p).map (plT H m h)
theorem plsT_succ (H : UInt64) (m : Nat) (h : 0 < m ∧ m < 2 ^ 64) (p : Nat) : plsT H m h (p + 1) = plsT H m h p ++ [plT H m h p] := by simp [plsT, List.range_succ]
theorem plsT_length (H : UInt64) (m : Nat) (h : 0 < m ∧ m < 2 ^ 64) (p : Nat) : (plsT H m h p).length = p := by simp [plsT]
theorem plsT_prefix (H : UInt64) (m : Nat) (h : 0 < m ∧ m < 2 ^ 64) (i p : Nat) (hi : i ≤ p) : plsT H m h i <+: plsT H m h p := by
  obtain ⟨k, rfl⟩ := Nat.exists_eq_add_of_le hi
  unfold plsT
  rw [List.range_add, List.map_append]
  exact List.prefix_append _ _
theorem stride_q (H : UInt64) : bits .or .u64 (qv H / 4294967296) 1 = qv (strideQ H) := by
  have := q_shr H 32 (by decide)
  rw [show ((2 ^ 32 : Nat) : Int) = 4294967296 from rfl] at this
  rw [this, show (1 : Int) = qv 1 from rfl, q_or]
  rfl
theorem qv_nat (i : Nat) (h : i < 2 ^ 64) : qv (UInt64.ofNat i) = (i : Int) := by
  unfold qv
  rw [UInt64.toNat_ofNat', Nat.mod_eq_of_lt h]
theorem place_q1 (g : UInt64) (i : Nat) (h : i < 2 ^ 64) : IntKind.u64.wrap ((i : Int) * qv g) = qv (UInt64.ofNat i * g) := by
  rw [← qv_nat i h, q_mulw]
theorem place_q2 (H x : UInt64) (m : Nat) (h : m < 2 ^ 64) : qv (H + x) % (m : Int) = qv ((H + x) % UInt64.ofNat m) := by
  unfold qv
  rw [UInt64.toNat_mod, UInt64.toNat_ofNat', Nat.mod_eq_of_lt h]
  omega

set_option maxRecDepth 100000 in
theorem places_any (p : Int) (v : Value) (key : ByteArray) (w : World) (hs : key.size ≤ 281474976710656) :
    Calls Tryz.prog 40 #[.agg #[.int .i64 p, v], .string key] w fun e w' => e = .returned (.func (.func 63) #[] #[.pointer (some ⟨w.heap.size, 0, none⟩), .pointer (some ⟨w.heap.size + 1, 0, none⟩), .pointer (some ⟨w.heap.size + 1 + 1, 0, none⟩)]) ∧
      w' = ((w.alloc (.cells #[.int .i64 p, v] 53)).alloc (.cells #[.int .u64 (qv (hashL key.data.toList))] 77)).alloc (.cells #[.int .u64 (qv (strideQ (hashL key.data.toList)))] 77) := by
  have HH : ∀ w, Hid (Calls Tryz.prog 62 #[.string key] w fun e w' => e = .returned (.int .u64 (qv (hashL key.data.toList))) ∧ w' = w) := fun w => Lib.hid (bHash_any key w hs)
  generalize hashL key.data.toList = H at *
  have e1 := stride_q H
  have g1 := q_ge H
  go_enter Tryz.func40, Tryz.ntmps40
  go_wp2_with fail
  refine (HH _).out.mono ?_
  rintro e w1 ⟨rfl, rfl⟩
  go_wp2_with fail
  go_ret
  exact ⟨rfl, rfl⟩

/-- What a round keeps: the three blocks that the function has taken with it. -/
def KeepQ (b : Nat) (W W' : World) : Prop := ∀ k, b ≤ k → k < b + 3 → W'.heap[k]? = W.heap[k]?
theorem keepQ_t {b : Nat} {A B C : World} (h : KeepQ b A B) (k : KeepQ b B C) : KeepQ b A C := fun i h1 h2 => (k i h1 h2).trans (h i h1 h2)
theorem keepQ_b {b : Nat} {w : World} (hb : b + 3 ≤ w.heap.size) (W : World) (l : Nat) (o o' : Obj) (hl : w.heap.size ≤ l) (_ : W.heap[l]? = some o) (_ : o.isCells = false) (_ : o.isWalk = false) : KeepQ b W (W.putObj l o') := fun k _ h2 => World.putObj_heap_other (by omega)
/-- The three blocks. -/
def TakenQ (W : World) (b : Nat) (p : Int) (v : Value) (H : UInt64) : Prop :=
  W.heap[b]? = some (.cells #[.int .i64 p, v] 53 (0, 0)) ∧ W.heap[b + 1]? = some (.cells #[.int .u64 (qv H)] 77 (0, 0)) ∧ W.heap[b + 1 + 1]? = some (.cells #[.int .u64 (qv (strideQ H))] 77 (0, 0))
theorem TakenQ.keep {W W' : World} {b : Nat} {p : Int} {v : Value} {H : UInt64} (h : TakenQ W b p v H) (k : KeepQ b W W') : TakenQ W' b p v H :=
  ⟨(k b (Nat.le_refl _) (by omega)).trans h.1, (k (b + 1) (by omega) (by omega)).trans h.2.1, (k (b + 1 + 1) (by omega) (by omega)).trans h.2.2⟩

set_option maxRecDepth 100000 in
set_option maxHeartbeats 2000000 in
theorem iter_in (F : Fence) (n : Nat) (hF : F.fn 63) (hro : F.round = none) (hn : 1 ≤ n) (l b p len cap : Nat) (ao : Option Addr) (H : UInt64) (hp : p ≤ 1000) (h0 : 0 < len) (hlen : len ≤ 100000) (hm : 0 < 8 * len ∧ 8 * len < 2 ^ 64) (J Jx : List (PlT (8 * len)) → World → Prop)
    (hY : ∀ pre x W, J pre W → pre.length < p → YieldAt F (n - 1) Tryz.prog l #[.int .u64 (qv x.1)] W fun e W' =>
      (e = .returned (.bool true) ∧ J (pre ++ [x]) W' ∧ KeepQ b W W') ∨ (e = .returned (.bool false) ∧ Jx (pre ++ [x]) W'))
    (W : World) (hT : TakenQ W b p (.slice ao len cap) H) (hJ : J [] W) :
    CallsIn F n Tryz.prog 63 #[.func (.yield l) #[] #[], .pointer (some ⟨b, 0, none⟩), .pointer (some ⟨b + 1, 0, none⟩), .pointer (some ⟨b + 1 + 1, 0, none⟩)] W fun e W' => (∃ v, e = .returned v) ∧
      ((∃ ys, ys = plsT H (8 * len) hm p ∧ J ys W') ∨ (∃ pre, pre <+: plsT H (8 * len) hm p ∧ Jx pre W')) := by
  have hpi : (p : Int) ≤ 1000 := by omega
  have hli : (len : Int) ≤ 100000 := by omega
  have hl0 : (0 : Int) < len := by omega
  refine callsIn_of_wp Tryz.func63 rfl hF ?_ hro
  simp only [Tryz.ntmps63, List.size_toArray, List.length_cons, List.length_nil, Nat.reduceAdd, Nat.reduceSub, Array.replicate_succ, Array.replicate_zero, List.push_toArray, List.append_toArray, List.nil_append, List.cons_append]
  have c0 : W.cell? ⟨b, 0, none⟩ = some (.int .i64 p) := (Lib.cell_of_heap hT.1 0).trans rfl
  gi_wp2
  gi_loopw [9] (fun x wr => ∃ i : Nat, i ≤ p ∧ x = .int .u64 i ∧ TakenQ wr b p (.slice ao len cap) H ∧ J (plsT H (8 * len) hm i) wr) (fun x _ => (p - intOf x).toNat)
  case atStart => exact ⟨0, Nat.zero_le _, rfl, hT, hJ⟩
  case round =>
    obtain ⟨i, hi, rfl, T1, J1⟩ := hrel
    clear c0
    by_cases hlt : i < p
    · have hlt' : (i : Int) < p := by omega
      have e1 := place_q1 (strideQ H) i (by omega)
      have e2 := q_addw H (UInt64.ofNat i * strideQ H)
      have e3 := place_q2 H (UInt64.ofNat i * strideQ H) (8 * len) (by omega)
      rw [show ((8 * len : Nat) : Int) = 8 * (len : Int) by omega, show (H + UInt64.ofNat i * strideQ H) % UInt64.ofNat (8 * len) = plQ H (8 * len) i from rfl] at e3
      have g3 := q_ge (H + UInt64.ofNat i * strideQ H)
      have hYv : (plT H (8 * len) hm i).1 = plQ H (8 * len) i := rfl
      obtain ⟨fn, tmps, assign, body, hy, hR⟩ := hY (plsT H (8 * len) hm i) (plT H (8 * len) hm i) wr J1 (by rw [plsT_length]; exact hlt)
      have HR := Lib.hid hR
      have c1 : wr.cell? ⟨b, 1, none⟩ = some (.slice ao len cap) := (Lib.cell_of_heap T1.1 1).trans rfl
      have c2 : wr.cell? ⟨b + 1, 0, none⟩ = some (.int .u64 (qv H)) := (Lib.cell_of_heap T1.2.1 0).trans rfl
      have c3 : wr.cell? ⟨b + 1 + 1, 0, none⟩ = some (.int .u64 (qv (strideQ H))) := (Lib.cell_of_heap T1.2.2 0).trans rfl
      have HS := Lib.hid (plsT_succ H (8 * len) hm i)
      clear hR hY
      rw [← hYv] at e3
      clear hYv
      generalize UInt64.ofNat i * strideQ H = X at *
      generalize plT H (8 * len) hm i = Y at *
      have HPX := Lib.hid (plsT_prefix H (8 * len) hm (i + 1) p hlt)
      gi_wp2
      refine HR.out.mono ?_
      rintro e W3 (⟨rfl, hJ3, hk3⟩ | ⟨rfl, hJx3⟩)
      · have T3 := Lib.hid (T1.keep hk3)
        have J3 := Lib.hid hJ3
        clear T1 J1 HR hJ3 hk3 c1 c2 c3
        gi_wp2
        exact ⟨⟨i + 1, hlt, by go_num, T3.out, by rw [HS.out]; exact J3.out⟩, by simp [intOf]; omega⟩
      · have J3 := Lib.hid hJx3
        clear T1 J1 HR hJx3 c1 c2 c3
        gi_wp2
        refine bodyPost_ret (results_none rfl _ _ _) rfl ?_
        exact ⟨⟨_, rfl⟩, .inr ⟨_, by rw [← HS.out]; exact HPX.out, J3.out⟩⟩
    · obtain rfl : i = p := by omega
      have HJ := Lib.hid J1
      clear T1 J1
      gi_wp2
      go_end0
      exact ⟨⟨_, rfl⟩, .inl ⟨_, rfl, HJ.out⟩⟩
/-- The function that hands out the places, as a range over it wants it. -/
theorem iter_stops (F : Fence) (n : Nat) (hF : F.fn 63) (hro : F.round = none) (hn : 1 ≤ n) (b p len cap : Nat) (ao : Option Addr) (H : UInt64) (hp : p ≤ 1000) (h0 : 0 < len) (hlen : len ≤ 100000) (hm : 0 < 8 * len ∧ 8 * len < 2 ^ 64) (w : World) (hT : TakenQ w b p (.slice ao len cap) H) :
    SeqStopsK F n Tryz.prog 63 #[.pointer (some ⟨b, 0, none⟩), .pointer (some ⟨b + 1, 0, none⟩), .pointer (some ⟨b + 1 + 1, 0, none⟩)] (fun x : PlT (8 * len) => #[.int .u64 (qv x.1)]) (KeepQ b) (fun xs => xs = plsT H (8 * len) hm p) (fun pre => pre <+: plsT H (8 * len) hm p) p w :=
  fun l J Jx W hW _ _ hY hJ => iter_in F n hF hro hn l b p len cap ao H hp h0 hlen hm J Jx hY W (hT.keep fun k _ hk => hW.block k (Nat.lt_of_lt_of_le hk (by
    have := (Array.getElem?_eq_some_iff.1 hT.2.2).1
    omega))) hJ
end Go.Proofs.YtlhdnkfnhdkbkaaGreatDoor
namespace Go.Proofs.YtlhdnkfnhdkbkaaGreatDoor
open Go Go.RowKit Go.Shelf
attribute [local go_sem] Oper.semAt_some

def goodB (p : Int) (n : Nat) : Bool := decide (1 ≤ p ∧ p ≤ 16 ∧ 1 ≤ n ∧ n ≤ 8192)
set_option maxRecDepth 100000 in
theorem good_any (p : Int) (ao : Option Addr) (n cap : Nat) (w : World) :
    Calls Tryz.prog 41 #[.agg #[.int .i64 p, .slice ao n cap]] w fun e w' => e = .returned (.bool (goodB p n)) ∧ Below w.heap.size w w' := by
  by_cases h : 1 ≤ p
  · have q1 : decide (1 ≤ p) = true := decide_eq_true h
    by_cases h2 : p ≤ 16
    · have q2 : decide (p ≤ 16) = true := decide_eq_true h2
      by_cases h3 : 1 ≤ n
      · have q3 : decide ((1 : Int) ≤ n) = true := decide_eq_true (by omega)
        by_cases h4 : n ≤ 8192
        · have q4 : decide ((n : Int) ≤ 8192) = true := decide_eq_true (by omega)
          have hg : goodB p n = true := decide_eq_true ⟨h, h2, h3, h4⟩
          clear h2 h3 h4
          rw [hg]
          clear h
          go_enter Tryz.func41, Tryz.ntmps41
          go_wp2_with fail
          go_ret
          exact ⟨rfl, (Below.refl _ _).alloc (Nat.le_refl _) _⟩
        · have q4 : decide ((n : Int) ≤ 8192) = false := decide_eq_false (by omega)
          have hg : goodB p n = false := decide_eq_false (fun e => h4 e.2.2.2)
          clear h2 h3 h4
          rw [hg]
          clear h
          go_enter Tryz.func41, Tryz.ntmps41
          go_wp2_with fail
          go_ret
          exact ⟨rfl, (Below.refl _ _).alloc (Nat.le_refl _) _⟩
      · have q3 : decide ((1 : Int) ≤ n) = false := decide_eq_false (by omega)
        have hg : goodB p n = false := decide_eq_false (fun e => h3 e.2.2.1)
        clear h2 h3
        rw [hg]
        clear h
        go_enter Tryz.func41, Tryz.ntmps41
        go_wp2_with fail
        go_ret
        exact ⟨rfl, (Below.refl _ _).alloc (Nat.le_refl _) _⟩
    · have q2 : decide (p ≤ 16) = false := decide_eq_false h2
      have hg : goodB p n = false := decide_eq_false (fun e => h2 e.2.1)
      clear h2
      rw [hg]
      clear h
      go_enter Tryz.func41, Tryz.ntmps41
      go_wp2_with fail
      go_ret
      exact ⟨rfl, (Below.refl _ _).alloc (Nat.le_refl _) _⟩
  · have q1 : decide (1 ≤ p) = false := decide_eq_false h
    have hg : goodB p n = false := decide_eq_false (fun e => h e.1)
    rw [hg]
    clear h
    go_enter Tryz.func41, Tryz.ntmps41
    go_wp2_with fail
    go_ret
    exact ⟨rfl, (Below.refl _ _).alloc (Nat.le_refl _) _⟩

/-- Bytes that lie in a row. -/
def BytesIn (w : World) (ao : Option Addr) (bs : List UInt8) : Prop := ∀ i, i < bs.length → ∃ g o, ao = some ⟨g, o, none⟩ ∧ w.cell? ⟨g, o + i, none⟩ = some (.int .u8 ((bs.getD i 0).toNat : Int))
def bitK (bs : List UInt8) (k : Nat) : Bool := (bs.getD (k / 8) 0).toNat / 2 ^ (k % 8) % 2 == 1
def mayB (bs : List UInt8) (H : UInt64) (p : Nat) : Bool := (List.range p).all fun i => bitK bs (plQ H (8 * bs.length) i).toNat
def mayF (p : Int) (bs : List UInt8) (H : UInt64) : Bool := !goodB p bs.length || mayB bs H p.toNat

theorem bit_and : ∀ (c : Fin 256) (j : Fin 8), bits .and .u8 ((c.val : Int) / 2 ^ j.val) 1 = ((c.val / 2 ^ j.val % 2 : Nat) : Int) := by decide +kernel
theorem byte_bit (c : UInt8) (k : Nat) : bits .and .u8 ((c.toNat : Int) / 2 ^ (k % 8)) 1 = ((c.toNat / 2 ^ (k % 8) % 2 : Nat) : Int) :=
  bit_and ⟨c.toNat, c.toNat_lt⟩ ⟨k % 8, Nat.mod_lt _ (by decide)⟩
theorem own_heap {β : Type} (b : Nat) (cs : Array Value) (T : TypeId) (fr : Nat × Nat) : Own (fun (_ : β) (W : World) => W.heap[b]? = some (.cells cs T fr)) := by
  intro s W W' row hs hg hr
  have hlt := (Array.getElem?_eq_some_iff.1 hs).1
  refine (hg.block b hlt fun e => ?_).trans hs
  obtain ⟨o, ho, hc⟩ := hr b e.symm
  rw [hs] at ho
  obtain rfl := Option.some.inj ho
  cases hc

set_option maxRecDepth 100000 in
set_option maxHeartbeats 4000000 in
theorem may_good (p : Nat) (ao : Option Addr) (cap : Nat) (bs : List UInt8) (key : ByteArray) (w : World) (hs : key.size ≤ 281474976710656) (hB : BytesIn w ao bs) (hg : goodB p bs.length = true) :
    Calls Tryz.prog 27 #[.agg #[.int .i64 p, .slice ao bs.length cap], .string key] w fun e w' => e = .returned (.bool (mayB bs (hashL key.data.toList) p)) ∧ Below w.heap.size w w' := by
  have hgd := of_decide_eq_true hg
  have HG : ∀ w, Hid (Calls Tryz.prog 41 #[.agg #[.int .i64 p, .slice ao bs.length cap]] w fun e w' => e = .returned (.bool true) ∧ Below w.heap.size w w') := fun w => Lib.hid (by
    have := good_any p ao bs.length cap w
    rwa [hg] at this)
  have HP : ∀ w, Hid (Calls Tryz.prog 40 #[.agg #[.int .i64 p, .slice ao bs.length cap], .string key] w fun e w' => e = .returned (.func (.func 63) #[] #[.pointer (some ⟨w.heap.size, 0, none⟩), .pointer (some ⟨w.heap.size + 1, 0, none⟩), .pointer (some ⟨w.heap.size + 1 + 1, 0, none⟩)]) ∧
      w' = ((w.alloc (.cells #[.int .i64 p, .slice ao bs.length cap] 53)).alloc (.cells #[.int .u64 (qv (hashL key.data.toList))] 77)).alloc (.cells #[.int .u64 (qv (strideQ (hashL key.data.toList)))] 77)) := fun w => Lib.hid (places_any p _ key w hs)
  generalize hashL key.data.toList = H at *
  obtain ⟨n, hn⟩ : ∃ n, bs.length = n := ⟨_, rfl⟩
  rw [hn] at hgd
  have HN := Lib.hid hn
  have HB := Lib.hid hB
  have hn1 : 0 < n := by omega
  have hn2 : n ≤ 8192 := hgd.2.2.2
  have hp1 : p ≤ 16 := by have := hgd.2.1; omega
  rw [hn] at HG HP ⊢
  clear hs hB hg hgd hn
  have h3 : Fence.wide.fn 27 := trivial
  refine (callsIn_wide (n := 6)).1 ?_
  refine callsIn_of_wp_marks Tryz.func27 rfl h3 ?_ rfl
  simp only [Tryz.ntmps27, List.size_toArray, List.length_cons, List.length_nil, Nat.reduceAdd, Nat.reduceSub, Array.replicate_succ, Array.replicate_zero, List.push_toArray, List.append_toArray, List.nil_append, List.cons_append]
  gi_wp2
  have a1 : Below w.heap.size w ((w.alloc (.cells #[.int .i64 p, .slice ao n cap] 53)).alloc (.cells #[.bool false] 4)) := ((Below.refl _ _).alloc (Nat.le_refl _) _).alloc (by simp only [World.size_alloc]; omega) _
  have x0 : ((w.alloc (.cells #[.int .i64 p, .slice ao n cap] 53)).alloc (.cells #[.bool false] 4)).heap[w.heap.size]? = some (.cells #[.int .i64 p, .slice ao n cap] 53 (0, 0)) := (Below.heap_alloc _ _ _ (by simp)).trans (World.alloc_heap_new w _)
  have x1 : ((w.alloc (.cells #[.int .i64 p, .slice ao n cap] 53)).alloc (.cells #[.bool false] 4)).heap[w.heap.size + 1]? = some (.cells #[.bool false] 4 (0, 0)) := by
    have := World.alloc_heap_new (w.alloc (.cells #[.int .i64 p, .slice ao n cap] 53)) (.cells #[.bool false] 4)
    rwa [World.size_alloc] at this
  generalize ((w.alloc (.cells #[.int .i64 p, .slice ao n cap] 53)).alloc (.cells #[.bool false] 4)) = W0 at *
  have hW0 : w.heap.size + 1 < W0.heap.size := (Array.getElem?_eq_some_iff.1 x1).1
  refine ⟨trivial, ?_⟩
  refine (callsIn_wide.2 (HG _).out).mono ?_
  rintro e w1 ⟨rfl, b1⟩
  have y0 := (b1.block _ (by omega)).trans x0
  have y1 := (b1.block _ hW0).trans x1
  have a2 := below_past a1 b1 a1.size
  have hw1 := Nat.lt_of_lt_of_le hW0 b1.size
  clear HG x0 x1 a1 b1 hW0
  have c0 : w1.cell? ⟨w.heap.size, 0, none⟩ = some (.int .i64 p) := (Lib.cell_of_heap y0 0).trans rfl
  have c1 : w1.cell? ⟨w.heap.size, 1, none⟩ = some (.slice ao n cap) := (Lib.cell_of_heap y0 1).trans rfl
  gi_wp2
  refine ⟨trivial, ?_⟩
  refine (callsIn_wide.2 (HP _).out).mono ?_
  rintro e w2 ⟨rfl, rfl⟩
  have a3 : Below w1.heap.size w1 (((w1.alloc (.cells #[.int .i64 p, .slice ao n cap] 53)).alloc (.cells #[.int .u64 (qv H)] 77)).alloc (.cells #[.int .u64 (qv (strideQ H))] 77)) := (((Below.refl _ _).alloc (Nat.le_refl _) _).alloc (by simp only [World.size_alloc]; omega) _).alloc (by simp only [World.size_alloc]; omega) _
  have t1 : TakenQ (((w1.alloc (.cells #[.int .i64 p, .slice ao n cap] 53)).alloc (.cells #[.int .u64 (qv H)] 77)).alloc (.cells #[.int .u64 (qv (strideQ H))] 77)) w1.heap.size p (.slice ao n cap) H := by
    refine ⟨(Below.heap_alloc _ _ _ (by simp; omega)).trans ((Below.heap_alloc _ _ _ (by simp)).trans (World.alloc_heap_new w1 _)), (Below.heap_alloc _ _ _ (by simp)).trans ?_, ?_⟩
    · have := World.alloc_heap_new (w1.alloc (.cells #[.int .i64 p, .slice ao n cap] 53)) (.cells #[.int .u64 (qv H)] 77)
      rwa [World.size_alloc] at this
    · have := World.alloc_heap_new ((w1.alloc (.cells #[.int .i64 p, .slice ao n cap] 53)).alloc (.cells #[.int .u64 (qv H)] 77)) (.cells #[.int .u64 (qv (strideQ H))] 77)
      rwa [World.size_alloc, World.size_alloc] at this
  have hz2 : (((w1.alloc (.cells #[.int .i64 p, .slice ao n cap] 53)).alloc (.cells #[.int .u64 (qv H)] 77)).alloc (.cells #[.int .u64 (qv (strideQ H))] 77)).heap.size = w1.heap.size + 3 := by simp
  gi_wp2
  generalize (((w1.alloc (.cells #[.int .i64 p, .slice ao n cap] 53)).alloc (.cells #[.int .u64 (qv H)] 77)).alloc (.cells #[.int .u64 (qv (strideQ H))] 77)) = W2 at *
  have z0 := (a3.block _ (by omega)).trans y0
  have z1 := (a3.block _ hw1).trans y1
  have a4 := below_past a2 a3 a2.size
  clear y0 y1 a2 a3 c0 c1 HP
  have hm : 0 < 8 * n ∧ 8 * n < 2 ^ 64 := ⟨by omega, by omega⟩
  obtain ⟨g, o, hgo, _⟩ := HB.out 0 (by rw [HN.out]; exact hn1)
  subst hgo
  have HC : Hid (∀ W, Below w.heap.size w W → ∀ i, i < n → W.cell? ⟨g, o + i, none⟩ = some (.int .u8 ((bs.getD i 0).toNat : Int))) := Lib.hid fun W hW i hi => by
    obtain ⟨g', o', h1, h2⟩ := HB.out i (by rw [HN.out]; exact hi)
    obtain ⟨rfl, rfl⟩ : g = g' ∧ o = o' := by simpa using h1
    exact (hW.cell (p := ⟨g, o + i, none⟩) (cellLt h2)).trans h2
  refine wpIn_rangeFunc_ownF (F := Fence.wide) (n := 6) rfl (by decide) (gf := 63) (lb := #[.pointer (some ⟨w1.heap.size, 0, none⟩), .pointer (some ⟨w1.heap.size + 1, 0, none⟩), .pointer (some ⟨w1.heap.size + 1 + 1, 0, none⟩)]) rfl trivial (enters_of Tryz.func63 (by kernel_rfl) rfl)
    (iter_stops Fence.wide 5 trivial rfl (by decide) w1.heap.size p n cap (some ⟨g, o, none⟩) H (by omega) hn1 (by omega) hm W2 t1) keepQ_t (keepQ_b (by omega)) (Below.refl _ _) (fun _ => rfl)
    (fun pre W => ((W.heap[w.heap.size]? = some (.cells #[.int .i64 p, .slice (some ⟨g, o, none⟩) n cap] 53 (0, 0)) ∧ W.heap[w.heap.size + 1]? = some (.cells #[.bool false] 4 (0, 0))) ∧ Below w.heap.size w W) ∧ ∀ x ∈ pre, bitK bs x.1.toNat = true)
    (fun c pre W => ((W.heap[w.heap.size + 1]? = some (.cells #[.bool false] 4 (0, 0))) ∧ Below w.heap.size w W) ∧ c = .ret ∧ ∃ x ∈ pre, bitK bs x.1.toNat = false)
    (fun s A B row hs hg hr => ⟨⟨⟨own_heap _ _ _ _ s A B row hs.1.1.1 hg (fun r e => (hr r e).2), own_heap _ _ _ _ s A B row hs.1.1.2 hg (fun r e => (hr r e).2)⟩, ownFrom_below (B := W2.heap.size) (Nat.le_refl _) (by omega) s A B row hs.1.2 hg hr⟩, hs.2⟩)
    (fun c s A B row hs hg hr => ⟨⟨own_heap _ _ _ _ s A B row hs.1.1 hg (fun r e => (hr r e).2), ownFrom_below (B := W2.heap.size) (Nat.le_refl _) (by omega) s A B row hs.1.2 hg hr⟩, hs.2⟩)
    ⟨⟨⟨z0, z1⟩, a4⟩, fun x hx => by cases hx⟩
    (fun x => { tmps := #[.agg #[.int .i64 p, .slice (some ⟨g, o, none⟩) n cap], .string key, .pointer (some ⟨w.heap.size, 0, none⟩), undef, .pointer (some ⟨w.heap.size + 1, 0, none⟩), .int .u64 (qv x.1), .agg #[.int .i64 p, .slice (some ⟨g, o, none⟩) n cap], .bool true, .bool false, .agg #[.int .i64 p, .slice (some ⟨g, o, none⟩) n cap], .string key, .func (.func 63) #[] #[.pointer (some ⟨w1.heap.size, 0, none⟩), .pointer (some ⟨w1.heap.size + 1, 0, none⟩), .pointer (some ⟨w1.heap.size + 1 + 1, 0, none⟩)], .int .u64 (qv x.1), undef, undef, undef, undef, undef, undef, undef, undef, undef, undef, undef], defers := [] }) ?assign ?body ?done ?stop
  case assign =>
    intro l x W K hK
    gi_wp2
    exact hK
  case body =>
    rintro l pre ⟨x, hx⟩ W ⟨⟨⟨i0, i1⟩, i2⟩, i3⟩ _
    have c1 : W.cell? ⟨w.heap.size, 1, none⟩ = some (.slice (some ⟨g, o, none⟩) n cap) := (Lib.cell_of_heap i0 1).trans rfl
    have c2 : W.cell? ⟨w.heap.size + 1, 0, none⟩ = some (.bool false) := (Lib.cell_of_heap i1 0).trans rfl
    have f2 := Lib.frozen_of_heap i1 0
    obtain ⟨k, hk⟩ : ∃ k, x.toNat = k := ⟨_, rfl⟩
    have hkv : qv x = (k : Int) := by rw [← hk]; rfl
    have c3 := HC.out W i2 (k / 8) (by omega)
    obtain ⟨c, hc⟩ : ∃ c, bs.getD (k / 8) 0 = c := ⟨_, rfl⟩
    rw [hc] at c3
    have hk1 : (k : Int) / 8 < n := by omega
    have hk2 : (0 : Int) ≤ k := by omega
    have hcb : (c.toNat : Int) < 256 := by have := c.toNat_lt; omega
    have hand := byte_bit c (k : Nat)
    have hbk : bitK bs k = (c.toNat / 2 ^ (k % 8) % 2 == 1) := by rw [bitK, hc]
    dsimp only
    rw [hkv]
    by_cases hb : c.toNat / 2 ^ (k % 8) % 2 = 1
    · rw [hb] at hand hbk
      have hbk2 : bitK bs k = true := hbk
      clear hb hbk
      gi_wp2
      exact ⟨KeepsOthers.refl _, fun _ _ _ => rfl, ⟨⟨i0, i1⟩, i2⟩, fun y hy => by
        rcases List.mem_append.1 hy with hy | hy
        · exact i3 y hy
        · obtain rfl : y = ⟨x, hx⟩ := by simpa using hy
          show bitK bs x.toNat = true
          rw [hk]
          exact hbk2⟩
    · have hb0 : c.toNat / 2 ^ (k % 8) % 2 = 0 := by omega
      rw [hb0] at hand hbk
      have hbk2 : bitK bs k = false := hbk
      clear hb hb0 hbk
      gi_wp2
      exact ⟨KeepsOthers.setCell _ _ _, ⟨(heap_put i1 (.bool false)).trans rfl, i2.setCell (p := ⟨w.heap.size + 1, 0, none⟩) (Nat.le_succ _) _⟩, rfl, ⟨x, hx⟩, by simp, by show bitK bs x.toNat = false; rw [hk]; exact hbk2⟩
  case done =>
    rintro D ys W hD rfl ⟨⟨⟨i0, i1⟩, i2⟩, i3⟩ hK
    have hmay : mayB bs H p = true := by
      unfold mayB
      rw [List.all_eq_true, HN.out]
      intro i hi
      exact i3 (plT H (8 * n) hm i) (List.mem_map.2 ⟨i, hi, rfl⟩)
    have c2 : W.cell? ⟨w.heap.size + 1, 0, none⟩ = some (.bool false) := (Lib.cell_of_heap i1 0).trans rfl
    have f2 := Lib.frozen_of_heap i1 0
    have HMAY := Lib.hid hmay
    clear hmay
    gi_wp2
    have hK' := (KeepsOthers.setCell W ⟨w.heap.size + 1, 0, none⟩ (.bool true)).same D _ hK rfl
    have hx1 := heap_put (j := 0) i1 (.bool true)
    refine ⟨by simp, .inl ⟨_, _, rfl, run_takeDeferred hK', ?_⟩⟩
    have hc5 := cell_kept ((Lib.cell_of_heap hx1 0).trans rfl) (grownBy_putObj' _ D (.deferred none)) (fun r e => by cases e; exact ⟨_, hK', rfl⟩)
    refine ⟨.bool true, ?_, by rw [HMAY.out], (i2.setCell (p := ⟨w.heap.size + 1, 0, none⟩) (Nat.le_succ _) _).trans (belowK_b (w := w) (Nat.le_refl _) _ D _ _ (by omega) hK' rfl rfl)⟩
    simp [results, Tryz.f27, go_sem, hc5]
  case stop =>
    rintro D c pre W hD hp ⟨⟨i1, i2⟩, rfl, x, hx, hbx⟩ hK
    have hmay : mayB bs H p = false := by
      unfold mayB
      rw [HN.out]
      have hx2 := hp.subset hx
      unfold plsT at hx2
      obtain ⟨i, hi, rfl⟩ := List.mem_map.1 hx2
      cases hq : (List.range p).all fun i => bitK bs (plQ H (8 * n) i).toNat with
      | false => rfl
      | true =>
        have := List.all_eq_true.1 hq i hi
        rw [show (plT H (8 * n) hm i).1 = plQ H (8 * n) i from rfl, this] at hbx
        cases hbx
    have HMAY := Lib.hid hmay
    clear hmay hp hx hbx
    gi_wp2
    refine ⟨by simp, .inl ⟨_, _, rfl, run_takeDeferred hK, ?_⟩⟩
    have hc5 := cell_kept ((Lib.cell_of_heap i1 0).trans rfl) (grownBy_putObj' _ D (.deferred none)) (fun r e => by cases e; exact ⟨_, hK, rfl⟩)
    refine ⟨.bool false, ?_, by rw [HMAY.out], i2.trans (belowK_b (w := w) (Nat.le_refl _) _ D _ _ (by omega) hK rfl rfl)⟩
    simp [results, Tryz.f27, go_sem, hc5]
set_option maxRecDepth 100000 in
theorem may_bad (p : Int) (ao : Option Addr) (n cap : Nat) (key : ByteArray) (w : World) (hg : goodB p n = false) :
    Calls Tryz.prog 27 #[.agg #[.int .i64 p, .slice ao n cap], .string key] w fun e w' => e = .returned (.bool true) ∧ Below w.heap.size w w' := by
  have HG : ∀ w, Hid (Calls Tryz.prog 41 #[.agg #[.int .i64 p, .slice ao n cap]] w fun e w' => e = .returned (.bool false) ∧ Below w.heap.size w w') := fun w => Lib.hid (by
    have := good_any p ao n cap w
    rwa [hg] at this)
  have a1 : Below w.heap.size w ((w.alloc (.cells #[.int .i64 p, .slice ao n cap] 53)).alloc (.cells #[.bool false] 4)) := ((Below.refl _ _).alloc (Nat.le_refl _) _).alloc (by simp only [World.size_alloc]; omega) _
  have r1 : rowAt ((w.alloc (.cells #[.int .i64 p, .slice ao n cap] 53)).alloc (.cells #[.bool false] 4)) (w.heap.size + 1) = some #[.bool false] := rowAt_alloc_at _ _ _ _ (by simp only [World.size_alloc])
  clear hg
  go_enter Tryz.func27, Tryz.ntmps27
  go_wp2_with fail
  generalize ((w.alloc (.cells #[.int .i64 p, .slice ao n cap] 53)).alloc (.cells #[.bool false] 4)) = W0 at *
  refine (HG _).out.mono ?_
  rintro e w1 ⟨rfl, b1⟩
  have r2 := rowAt_past b1 r1
  have a2 := below_past a1 b1 a1.size
  have c2 := cell_of_rowAt r2 0
  have f2 := frozen_of_rowAt r2 0
  clear HG r1 a1 b1 r2
  go_wp2_with fail
  exact bodyPost_ret (v := .bool true) (by simp [results, Tryz.f27, go_sem, c2]) rfl ⟨rfl, a2.setCell (p := ⟨w.heap.size + 1, 0, none⟩) (Nat.le_succ _) _⟩
theorem may_any (p : Int) (ao : Option Addr) (cap : Nat) (bs : List UInt8) (key : ByteArray) (w : World) (hs : key.size ≤ 281474976710656) (hB : BytesIn w ao bs) :
    Calls Tryz.prog 27 #[.agg #[.int .i64 p, .slice ao bs.length cap], .string key] w fun e w' => e = .returned (.bool (mayF p bs (hashL key.data.toList))) ∧ Below w.heap.size w w' := by
  unfold mayF
  cases hg : goodB p bs.length with
  | false => exact may_bad p ao bs.length cap key w hg
  | true =>
    have h1 := (of_decide_eq_true hg).1
    obtain ⟨q, rfl⟩ : ∃ q : Nat, p = q := ⟨p.toNat, by omega⟩
    rw [Int.toNat_natCast]
    exact may_good q ao cap bs key w hs hB hg
end Go.Proofs.YtlhdnkfnhdkbkaaGreatDoor
namespace Go.Proofs.YtlhdnkfnhdkbkaaGreatDoor
open Go Go.RowKit Go.Shelf
attribute [local go_sem] Oper.semAt_some

/-- Bit k is set. -/
def setK (bs : List UInt8) (k : Nat) : List UInt8 := bs.set (k / 8) (UInt8.ofNat ((bs.getD (k / 8) 0).toNat ||| 2 ^ (k % 8)))
theorem setK_length (bs : List UInt8) (k : Nat) : (setK bs k).length = bs.length := by simp [setK]
def sizeK (m each : Nat) : Nat := (m * each + 7) / 8 + 1
def probesK (each : Nat) : Nat := max 1 (each * 7 / 10)
/-- A key's bits are set. -/
def putKey (p : Nat) (bs : List UInt8) (key : List UInt8) : List UInt8 := (List.range p).foldl (fun b i => setK b (plQ (hashL key) (8 * bs.length) i).toNat) bs
def makeK (p n : Nat) (keys : List (List UInt8)) : List UInt8 := keys.foldl (putKey p) (List.replicate n 0)

def cellsB8 (bs : List UInt8) : Array Value := (bs.map Extern.Stop.cell).toArray
theorem made_zero (n : Nat) : madeCells (Value.int .u8 0).cells (n * 1) = cellsB8 (List.replicate n 0) := by
  apply Array.ext
  · simp [madeCells, cellsB8]
  · intro i h1 h2
    simp [madeCells, cellsB8, Value.cells, Extern.Stop.cell, Nat.mod_one]
theorem make_bytes (n : Nat) (hn : n ≤ 100000) (w : World) : (Instr.makeSlice 51 (.int .i64 n) (.int .i64 n)).run Tryz.prog w = .ok (.slice (some ⟨w.heap.size, 0, none⟩) n n) (w.alloc (.cells (cellsB8 (List.replicate n 0)) 5)) := by
  have h : (Tryz.prog.info? 5).map (fun i => (i.zero, i.size, i.bytes)) = some (some (.int .u8 0), 1, 1) := by kernel_rfl
  obtain ⟨i0, hi, hz0, hz1, hz2⟩ := info_parts h
  have := run_make (P := Tryz.prog) w 51 5 i0 (.int .u8 0) Tryz.underlying51 hi hz0 .i64 .i64 n n (by omega) (Int.le_refl _) (by rw [hz2]; omega) (by omega)
  rw [hz1, Int.toNat_natCast, made_zero] at this
  exact this

/-- The marks of ranges that are over are taken off. -/
theorem leaves_marks {F : Fence} {n : Nat} {P : Program} {fn : Func} {tmps : Array Value} {R : Ending → World → Prop} : ∀ (Ds : List Nat) (u : FrameMode) (w : World), u ≠ .run → Ds.Nodup → (∀ D ∈ Ds, w.heap[D]? = some (.deferred (some []))) →
    (∀ W' : World, W'.os = w.os → W'.tape = w.tape → W'.output = w.output → W'.heap.size = w.heap.size → (∀ k, k ∉ Ds → W'.heap[k]? = w.heap[k]?) → LeavesIn F n P fn tmps R [] u W') → LeavesInM F n P fn tmps R (Ds.map fun D => { target := .collected D, args := #[] }) u w
  | [], _, w, _, _, _, h => h w rfl rfl rfl rfl fun _ _ => rfl
  | D :: Ds, u, w, hu, hnd, hD, h => by
    have h0 := hD D (by simp)
    refine ⟨hu, .inl ⟨D, _, rfl, run_takeDeferred h0, ?_⟩⟩
    have hnd' := List.nodup_cons.1 hnd
    refine leaves_marks Ds u _ hu hnd'.2 (fun E hE => ?_) (fun W' h1 h2 h3 h4 h5 => ?_)
    · have hne : E ≠ D := fun e => hnd'.1 (e ▸ hE)
      exact (World.putObj_heap_other hne).trans (hD E (by simp [hE]))
    · refine h W' h1 h2 h3 (h4.trans (by simp [World.putObj])) (fun k hk => ?_)
      have hne : k ≠ D := fun e => hk (by simp [e])
      exact (h5 k (fun e => hk (by simp [e]))).trans (World.putObj_heap_other hne)
def bsK (P N : Nat) (S : Nat → ByteArray) (j : Nat) : List UInt8 := ((List.range j).map fun i => (S i).data.toList).foldl (putKey P) (List.replicate N 0)
theorem putKey_length (p : Nat) (bs : List UInt8) (key : List UInt8) : (putKey p bs key).length = bs.length := by
  have : ∀ (m : Nat) (l : List Nat) (b : List UInt8), (l.foldl (fun b i => setK b (plQ (hashL key) (8 * m) i).toNat) b).length = b.length := by
    intro m l
    induction l with
    | nil => intro b; rfl
    | cons i l ih => intro b; rw [List.foldl_cons, ih, setK_length]
  exact this _ _ bs
theorem bsK_length (P N : Nat) (S : Nat → ByteArray) (j : Nat) : (bsK P N S j).length = N := by
  unfold bsK
  have : ∀ (l : List (List UInt8)) (b : List UInt8), (l.foldl (putKey P) b).length = b.length := by
    intro l
    induction l with
    | nil => intro b; rfl
    | cons i l ih => intro b; rw [List.foldl_cons, ih, putKey_length]
  rw [this, List.length_replicate]
theorem bsK_succ (P N : Nat) (S : Nat → ByteArray) (j : Nat) : bsK P N S (j + 1) = putKey P (bsK P N S j) (S j).data.toList := by
  unfold bsK
  rw [List.range_succ, List.map_append, List.foldl_append]
  rfl

theorem cellsB8_get (bs : List UInt8) (i : Nat) (h : i < bs.length) : (cellsB8 bs)[i]? = some (.int .u8 ((bs.getD i 0).toNat : Int)) := by
  simp [cellsB8, Extern.Stop.cell, h]
theorem or_bits : ∀ (c : Fin 256) (j : Fin 8), bits .or .u8 (c.val : Int) ((2 : Int) ^ j.val % 256) = ((c.val ||| 2 ^ j.val : Nat) : Int) ∧ (c.val ||| 2 ^ j.val) < 256 := by decide +kernel
theorem or_byte8 (c : UInt8) (k : Nat) : bits .or .u8 (c.toNat : Int) ((2 : Int) ^ (k % 8) % 256) = ((UInt8.ofNat (c.toNat ||| 2 ^ (k % 8))).toNat : Int) := by
  have h := or_bits ⟨c.toNat, c.toNat_lt⟩ ⟨k % 8, Nat.mod_lt _ (by decide)⟩
  rw [UInt8.toNat_ofNat', Nat.mod_eq_of_lt h.2]
  exact h.1
theorem cellsB8_set (bs : List UInt8) (i : Nat) (c : UInt8) : (cellsB8 bs).setIfInBounds i (.int .u8 (c.toNat : Int)) = cellsB8 (bs.set i c) := by
  simp [cellsB8, Extern.Stop.cell, List.map_set]
/-- Marks that lie below B abide what is laid or turned from B on. -/
theorem own_marks {β : Type} (B : Nat) (Ds : List Nat) (hB : ∀ D ∈ Ds, D < B) : OwnFrom B (fun (_ : β) (W : World) => ∀ D ∈ Ds, W.heap[D]? = some (.deferred (some []))) := by
  intro s W W' row hs hg hr D hD
  have h0 := hs D hD
  refine (hg.block D (Array.getElem?_eq_some_iff.1 h0).1 fun e => ?_).trans h0
  have := (hr D e.symm).1
  have := hB D hD
  omega

set_option maxRecDepth 100000 in
set_option maxHeartbeats 4000000 in
theorem make_any (v : Value) (len : Nat) (S : Nat → ByteArray) (each : Nat) (w : World) (h1 : InStrs w v len S) (hs : ∀ i, i < len → (S i).size ≤ 1000000) (he : 1 ≤ each ∧ each ≤ 32) (hl : len ≤ 2048) :
    Calls Tryz.prog 26 #[v, .int .i64 each] w fun e w' => ∃ g cap, e = .returned (.tuple #[.agg #[.int .i64 (probesK each), .slice (some ⟨g, 0, none⟩) (sizeK len each) cap], .int .i64 0]) ∧ rowAt w' g = some ((makeK (probesK each) (sizeK len each) ((List.range len).map fun i => (S i).data.toList)).map Extern.Stop.cell).toArray ∧ w.heap.size ≤ g ∧ Below w.heap.size w w' := by
  obtain ⟨ao1, cap1, rfl, hS1⟩ := h1
  have HS1 := Lib.hid hS1
  have HSZ := Lib.hid hs
  obtain ⟨P, hP⟩ : ∃ P, probesK each = P := ⟨_, rfl⟩
  obtain ⟨N, hN⟩ : ∃ N, sizeK len each = N := ⟨_, rfl⟩
  have hee1 : (1 : Int) ≤ each := by omega
  have hee2 : (each : Int) ≤ 32 := by omega
  have hll : (len : Int) ≤ 2048 := by omega
  have hle : len * each ≤ 65536 := Nat.le_trans (Nat.mul_le_mul hl he.2) (by decide)
  have q1 : decide ((each : Int) < 1) = false := decide_eq_false (by omega)
  have q2 : decide ((32 : Int) < each) = false := decide_eq_false (by omega)
  have q3 : decide ((2048 : Int) < len) = false := decide_eq_false (by omega)
  have hP2 : P ≤ 22 := by rw [← hP, probesK]; omega
  have hN1 : 0 < N := by rw [← hN, sizeK]; omega
  have hN2 : N ≤ 8193 := by rw [← hN, sizeK]; omega
  obtain ⟨M, hM⟩ : ∃ M, len * each = M := ⟨_, rfl⟩
  have hmul : (len : Int) * (each : Int) = (M : Int) := by rw [← hM]; exact (Int.natCast_mul _ _).symm
  have hM2 : (M : Int) ≤ 65536 := by omega
  have hM0 : (0 : Int) ≤ M := by omega
  have hNM : ((M : Int) + 7) / 8 + 1 = N := by rw [← hN, sizeK, hM]; omega
  have hPM : max 1 ((each : Int) * 7 / 10) = P := by rw [← hP, probesK]; omega
  rw [hP, hN]
  have h3 : Fence.wide.fn 26 := trivial
  refine (callsIn_wide (n := 6)).1 ?_
  refine callsIn_of_wp_marks Tryz.func26 rfl h3 ?_ rfl
  simp only [Tryz.ntmps26, List.size_toArray, List.length_cons, List.length_nil, Nat.reduceAdd, Nat.reduceSub, Array.replicate_succ, Array.replicate_zero, List.push_toArray, List.append_toArray, List.nil_append, List.cons_append]
  have hNi : (N : Int) ≤ 8193 := by omega
  have hN0 : (0 : Int) < N := by omega
  have hmk := fun w => make_bytes N (by omega) w
  clear h3 hs hS1 hle hM hP hN hl he
  gi_wp2
  have x0 : (((w.alloc (.cells #[.int .i64 0, .slice none 0 0] 53)).alloc (.cells (cellsB8 (List.replicate N 0)) 5)).alloc (.cells #[.int .i64 P, .slice (some ⟨w.heap.size + 1, 0, none⟩) N N] 53)).heap[w.heap.size]? = some (.cells #[.int .i64 0, .slice none 0 0] 53 (0, 0)) :=
    (Below.heap_alloc _ _ _ (by simp; omega)).trans ((Below.heap_alloc _ _ _ (by simp)).trans (World.alloc_heap_new w _))
  have x1 : (((w.alloc (.cells #[.int .i64 0, .slice none 0 0] 53)).alloc (.cells (cellsB8 (List.replicate N 0)) 5)).alloc (.cells #[.int .i64 P, .slice (some ⟨w.heap.size + 1, 0, none⟩) N N] 53)).heap[w.heap.size + 1]? = some (.cells (cellsB8 (List.replicate N 0)) 5 (0, 0)) := by
    refine (Below.heap_alloc _ _ _ (by simp)).trans ?_
    have := World.alloc_heap_new (w.alloc (.cells #[.int .i64 0, .slice none 0 0] 53)) (.cells (cellsB8 (List.replicate N 0)) 5)
    rwa [World.size_alloc] at this
  have x2 : (((w.alloc (.cells #[.int .i64 0, .slice none 0 0] 53)).alloc (.cells (cellsB8 (List.replicate N 0)) 5)).alloc (.cells #[.int .i64 P, .slice (some ⟨w.heap.size + 1, 0, none⟩) N N] 53)).heap[w.heap.size + 1 + 1]? = some (.cells #[.int .i64 P, .slice (some ⟨w.heap.size + 1, 0, none⟩) N N] 53 (0, 0)) := by
    have := World.alloc_heap_new ((w.alloc (.cells #[.int .i64 0, .slice none 0 0] 53)).alloc (.cells (cellsB8 (List.replicate N 0)) 5)) (.cells #[.int .i64 P, .slice (some ⟨w.heap.size + 1, 0, none⟩) N N] 53)
    rwa [World.size_alloc, World.size_alloc] at this
  have a0 : Below w.heap.size w (((w.alloc (.cells #[.int .i64 0, .slice none 0 0] 53)).alloc (.cells (cellsB8 (List.replicate N 0)) 5)).alloc (.cells #[.int .i64 P, .slice (some ⟨w.heap.size + 1, 0, none⟩) N N] 53)) := (((Below.refl _ _).alloc (Nat.le_refl _) _).alloc (by simp only [World.size_alloc]; omega) _).alloc (by simp only [World.size_alloc]; omega) _
  generalize (((w.alloc (.cells #[.int .i64 0, .slice none 0 0] 53)).alloc (.cells (cellsB8 (List.replicate N 0)) 5)).alloc (.cells #[.int .i64 P, .slice (some ⟨w.heap.size + 1, 0, none⟩) N N] 53)) = W0 at *
  refine wpIn_loop (fun a wr => ∃ (j : Nat) (Ds : List Nat) (u8 u37 u38 u39 u40 u41 u42 u55 : Value), j ≤ len ∧ a = { tmps := #[.slice ao1 len cap1, .int .i64 each, undef, undef, .pointer (some ⟨w.heap.size, 0, none⟩), .int .i64 0, .pointer (some ⟨w.heap.size + 1 + 1, 0, none⟩), undef, u8, undef, .int .i64 each, .bool false, .bool false, .int .i64 each, .bool false, .bool false, undef, .slice ao1 len cap1, .int .i64 len, .bool false, undef, .int .i64 each, .int .i64 ((each : Int) * 7), .int .i64 ((each : Int) * 7 / 10), .int .i64 P, .slice ao1 len cap1, .int .i64 len, .int .i64 each, .int .i64 M, .int .i64 ((M : Int) + 7), .int .i64 (((M : Int) + 7) / 8), .int .i64 N, .slice (some ⟨w.heap.size + 1, 0, none⟩) N N, .agg #[.int .i64 P, .slice (some ⟨w.heap.size + 1, 0, none⟩) N N], .slice ao1 len cap1, .int .i64 len, .int .i64 (j : Int), u37, u38, u39, u40, u41, u42, undef, undef, undef, undef, undef, undef, undef, undef, undef, undef, undef, undef, u55, undef], defers := Ds.map fun D => { target := .collected D, args := #[] } } ∧
      Ds.Nodup ∧ (∀ D ∈ Ds, w.heap.size + 1 + 1 < D ∧ wr.heap[D]? = some (.deferred (some []))) ∧
      wr.heap[w.heap.size]? = some (.cells #[.int .i64 0, .slice none 0 0] 53 (0, 0)) ∧ wr.heap[w.heap.size + 1]? = some (.cells (cellsB8 (bsK P N S j)) 5 (0, 0)) ∧ wr.heap[w.heap.size + 1 + 1]? = some (.cells #[.int .i64 P, .slice (some ⟨w.heap.size + 1, 0, none⟩) N N] 53 (0, 0)) ∧ Below w.heap.size w wr)
    (fun a _ => (len - intOf (a.tmps.getD 36 undef)).toNat) ?start ?round
  case start => exact ⟨0, [], undef, undef, undef, undef, undef, undef, undef, undef, Nat.zero_le _, rfl, List.nodup_nil, (fun D h => by cases h), x0, x1, x2, a0⟩
  case round =>
    rintro _ wr ⟨j, Ds, u8, u37, u38, u39, u40, u41, u42, u55, hj, rfl, hnd, hds, y0, y1, y2, a1⟩
    clear x0 x1 x2 a0
    by_cases hlt : j < len
    · have hlt' : (j : Int) < len := by omega
      have c0 : wr.cell? ⟨w.heap.size + 1 + 1, 0, none⟩ = some (.int .i64 P) := (Lib.cell_of_heap y2 0).trans rfl
      have c1 : wr.cell? ⟨w.heap.size + 1 + 1, 1, none⟩ = some (.slice (some ⟨w.heap.size + 1, 0, none⟩) N N) := (Lib.cell_of_heap y2 1).trans rfl
      obtain ⟨ad, hao, hc⟩ := HS1.out j hlt
      subst hao
      have c2 := (a1.cell (p := ad.add j) (cellLt hc)).trans hc
      clear hc
      gi_wp2
      refine ⟨trivial, ?_⟩
      refine (callsIn_wide.2 (places_any P _ (S j) wr (Nat.le_trans (HSZ.out j hlt) (by decide)))).mono ?_
      rintro e w2 ⟨rfl, rfl⟩
      obtain ⟨H, hH⟩ : ∃ H, hashL (S j).data.toList = H := ⟨_, rfl⟩
      have HH := Lib.hid hH
      rw [hH]
      clear hH
      have a3 : Below wr.heap.size wr (((wr.alloc (.cells #[.int .i64 P, .slice (some ⟨w.heap.size + 1, 0, none⟩) N N] 53)).alloc (.cells #[.int .u64 (qv H)] 77)).alloc (.cells #[.int .u64 (qv (strideQ H))] 77)) := (((Below.refl _ _).alloc (Nat.le_refl _) _).alloc (by simp only [World.size_alloc]; omega) _).alloc (by simp only [World.size_alloc]; omega) _
      have t1 : TakenQ (((wr.alloc (.cells #[.int .i64 P, .slice (some ⟨w.heap.size + 1, 0, none⟩) N N] 53)).alloc (.cells #[.int .u64 (qv H)] 77)).alloc (.cells #[.int .u64 (qv (strideQ H))] 77)) wr.heap.size P (.slice (some ⟨w.heap.size + 1, 0, none⟩) N N) H := by
        refine ⟨(Below.heap_alloc _ _ _ (by simp; omega)).trans ((Below.heap_alloc _ _ _ (by simp)).trans (World.alloc_heap_new wr _)), (Below.heap_alloc _ _ _ (by simp)).trans ?_, ?_⟩
        · have := World.alloc_heap_new (wr.alloc (.cells #[.int .i64 P, .slice (some ⟨w.heap.size + 1, 0, none⟩) N N] 53)) (.cells #[.int .u64 (qv H)] 77)
          rwa [World.size_alloc] at this
        · have := World.alloc_heap_new ((wr.alloc (.cells #[.int .i64 P, .slice (some ⟨w.heap.size + 1, 0, none⟩) N N] 53)).alloc (.cells #[.int .u64 (qv H)] 77)) (.cells #[.int .u64 (qv (strideQ H))] 77)
          rwa [World.size_alloc, World.size_alloc] at this
      have hz2 : (((wr.alloc (.cells #[.int .i64 P, .slice (some ⟨w.heap.size + 1, 0, none⟩) N N] 53)).alloc (.cells #[.int .u64 (qv H)] 77)).alloc (.cells #[.int .u64 (qv (strideQ H))] 77)).heap.size = wr.heap.size + 3 := by simp
      have hw1 : w.heap.size + 1 + 1 < wr.heap.size := (Array.getElem?_eq_some_iff.1 y2).1
      gi_wp2
      generalize (((wr.alloc (.cells #[.int .i64 P, .slice (some ⟨w.heap.size + 1, 0, none⟩) N N] 53)).alloc (.cells #[.int .u64 (qv H)] 77)).alloc (.cells #[.int .u64 (qv (strideQ H))] 77)) = W2 at *
      have z0 := (a3.block _ (by omega)).trans y0
      have z1 := (a3.block _ (by omega)).trans y1
      have z2 := (a3.block _ hw1).trans y2
      have a4 := below_past a1 a3 a1.size
      have hds2 : ∀ D ∈ Ds, W2.heap[D]? = some (.deferred (some [])) := fun D hD => (a3.block _ (Array.getElem?_eq_some_iff.1 (hds D hD).2).1).trans (hds D hD).2
      have HD3 := Lib.hid (fun D hD => (hds D hD).1 : ∀ D ∈ Ds, w.heap.size + 1 + 1 < D)
      have HD2 : Hid (∀ D ∈ Ds, D < W2.heap.size) := Lib.hid fun D hD => (Array.getElem?_eq_some_iff.1 (hds2 D hD)).1
      clear y0 y1 y2 a1 a3 c0 c1 c2 hds
      have hm : 0 < 8 * N ∧ 8 * N < 2 ^ 64 := ⟨by omega, by omega⟩
      refine wpIn_rangeFunc_ownF (F := Fence.wide) (n := 6) rfl (by decide) (gf := 63) (lb := #[.pointer (some ⟨wr.heap.size, 0, none⟩), .pointer (some ⟨wr.heap.size + 1, 0, none⟩), .pointer (some ⟨wr.heap.size + 1 + 1, 0, none⟩)]) rfl trivial (enters_of Tryz.func63 (by kernel_rfl) rfl)
        (iter_stops Fence.wide 5 trivial rfl (by decide) wr.heap.size P N N (some ⟨w.heap.size + 1, 0, none⟩) H (by omega) hN1 (by omega) hm W2 t1) keepQ_t (keepQ_b (by omega)) (Below.refl _ _) (fun _ => rfl)
        (fun pre W => (((W.heap[w.heap.size]? = some (.cells #[.int .i64 0, .slice none 0 0] 53 (0, 0)) ∧ W.heap[w.heap.size + 1]? = some (.cells (cellsB8 (pre.foldl (fun b x => setK b x.1.toNat) (bsK P N S j))) 5 (0, 0))) ∧ W.heap[w.heap.size + 1 + 1]? = some (.cells #[.int .i64 P, .slice (some ⟨w.heap.size + 1, 0, none⟩) N N] 53 (0, 0))) ∧ Below w.heap.size w W) ∧ ∀ D ∈ Ds, W.heap[D]? = some (.deferred (some [])))
        (fun c pre W => False)
        (fun s A B row hs hg hr => ⟨⟨⟨⟨own_heap _ _ _ _ s A B row hs.1.1.1.1 hg (fun r e => (hr r e).2), own_heap _ _ _ _ s A B row hs.1.1.1.2 hg (fun r e => (hr r e).2)⟩, own_heap _ _ _ _ s A B row hs.1.1.2 hg (fun r e => (hr r e).2)⟩, ownFrom_below (B := W2.heap.size) (Nat.le_refl _) (by omega) s A B row hs.1.2 hg hr⟩, own_marks W2.heap.size Ds HD2.out s A B row hs.2 hg hr⟩)
        (fun c s A B row hs hg hr => hs)
        ⟨⟨⟨⟨z0, z1⟩, z2⟩, a4⟩, hds2⟩
        (fun x => { tmps := #[.slice (some ad) len cap1, .int .i64 each, undef, undef, .pointer (some ⟨w.heap.size, 0, none⟩), .int .i64 0, .pointer (some ⟨w.heap.size + 1 + 1, 0, none⟩), undef, .string (S j), .int .u64 (qv x.1), .int .i64 each, .bool false, .bool false, .int .i64 each, .bool false, .bool false, undef, .slice (some ad) len cap1, .int .i64 len, .bool false, undef, .int .i64 each, .int .i64 ((each : Int) * 7), .int .i64 ((each : Int) * 7 / 10), .int .i64 P, .slice (some ad) len cap1, .int .i64 len, .int .i64 each, .int .i64 M, .int .i64 ((M : Int) + 7), .int .i64 (((M : Int) + 7) / 8), .int .i64 N, .slice (some ⟨w.heap.size + 1, 0, none⟩) N N, .agg #[.int .i64 P, .slice (some ⟨w.heap.size + 1, 0, none⟩) N N], .slice (some ad) len cap1, .int .i64 len, .int .i64 (j : Int), .bool true, .pointer (some (ad.add j)), .string (S j), .agg #[.int .i64 P, .slice (some ⟨w.heap.size + 1, 0, none⟩) N N], .string (S j), .func (.func 63) #[] #[.pointer (some ⟨wr.heap.size, 0, none⟩), .pointer (some ⟨wr.heap.size + 1, 0, none⟩), .pointer (some ⟨wr.heap.size + 1 + 1, 0, none⟩)], .int .u64 (qv x.1), undef, undef, undef, undef, undef, undef, undef, undef, undef, undef, undef, u55, undef], defers := [] }) ?assign ?body ?done ?stop
      case stop => exact fun D c pre W _ _ h _ => h.elim
      case assign =>
        intro l x W K hK
        gi_wp2
        exact hK
      case body =>
        rintro l pre ⟨x, hx⟩ W ⟨⟨⟨⟨i0, i1⟩, i2⟩, i3⟩, i4⟩ _
        have hlb : (pre.foldl (fun b x => setK b x.1.toNat) (bsK P N S j)).length = N := by
          have : ∀ (l : List (PlT (8 * N))) (b : List UInt8), (l.foldl (fun b x => setK b x.1.toNat) b).length = b.length := by
            intro l
            induction l with
            | nil => intro b; rfl
            | cons i l ih => intro b; rw [List.foldl_cons, ih, setK_length]
          rw [this, bsK_length]
        obtain ⟨k, hk⟩ : ∃ k, x.toNat = k := ⟨_, rfl⟩
        have hstep : (pre ++ [(⟨x, hx⟩ : PlT (8 * N))]).foldl (fun b (x : PlT (8 * N)) => setK b x.1.toNat) (bsK P N S j) = setK (pre.foldl (fun b x => setK b x.1.toNat) (bsK P N S j)) k := by
          rw [List.foldl_append, ← hk]
          rfl
        have HSTEP := Lib.hid hstep
        have HI4 := Lib.hid i4
        clear hstep i4
        generalize pre.foldl (fun b x => setK b x.1.toNat) (bsK P N S j) = bs at *
        have hkv : qv x = (k : Int) := by rw [← hk]; rfl
        have hk8 : k / 8 < bs.length := by rw [hlb]; omega
        have c1 : W.cell? ⟨w.heap.size + 1 + 1, 1, none⟩ = some (.slice (some ⟨w.heap.size + 1, 0, none⟩) N N) := (Lib.cell_of_heap i2 1).trans rfl
        have c2 : W.cell? ⟨w.heap.size + 1, k / 8, none⟩ = some (.int .u8 ((bs.getD (k / 8) 0).toNat : Int)) := (Lib.cell_of_heap i1 (k / 8)).trans (cellsB8_get bs (k / 8) hk8)
        have f2 := Lib.frozen_of_heap i1 (k / 8)
        obtain ⟨c, hc⟩ : ∃ c, bs.getD (k / 8) 0 = c := ⟨_, rfl⟩
        rw [hc] at c2
        have hk1 : (k : Int) / 8 < N := by omega
        have hk2 : (0 : Int) ≤ k := by omega
        have hcb : (c.toNat : Int) < 256 := by have := c.toNat_lt; omega
        dsimp only
        rw [hkv]
        gi_wp2
        refine ⟨KeepsOthers.setCell _ _ _, fun q hq1 hq2 => Below.heap_setCell _ _ _ _ (by dsimp only; omega), ⟨⟨⟨?_, ?_⟩, ?_⟩, i3.setCell (p := ⟨w.heap.size + 1, k / 8, none⟩) (Nat.le_succ _) _⟩, fun D hD => ?_⟩
        · exact (Below.heap_setCell _ _ _ _ (by dsimp only; omega)).trans i0
        · refine (heap_put (j := k / 8) i1 _).trans ?_
          rw [HSTEP.out]
          have e : ∀ (v : Value) (T : TypeId) (fr : Nat × Nat), v = .int .u8 ((UInt8.ofNat (c.toNat ||| 2 ^ (k % 8))).toNat : Int) → some (Obj.cells ((cellsB8 bs).setIfInBounds (k / 8) v) T fr) = some (Obj.cells (cellsB8 (setK bs k)) T fr) := by
            intro v T fr hv
            rw [hv, cellsB8_set, setK, hc]
          refine e _ _ _ ?_
          exact congrArg (Value.int .u8) (or_byte8 c k)
        · exact (Below.heap_setCell _ _ _ _ (by dsimp only; omega)).trans i2
        · exact (Below.heap_setCell _ _ _ _ (by have := HD3.out D hD; dsimp only; omega)).trans (HI4.out D hD)
      case done =>
        rintro D ys W hD rfl ⟨⟨⟨⟨i0, i1⟩, i2⟩, i3⟩, i4⟩ hK
        have HI4 := Lib.hid i4
        clear i4 z0 z1 z2 a4 hds2
        have hput : (plsT H (8 * N) hm P).foldl (fun b x => setK b x.1.toNat) (bsK P N S j) = bsK P N S (j + 1) := by
          rw [bsK_succ, putKey, bsK_length, HH.out, plsT, List.foldl_map]
          rfl
        rw [hput] at i1
        have HHH := Lib.hid hput
        clear hput
        gi_wp2
        refine ⟨⟨j + 1, D :: Ds, _, _, _, _, _, _, _, _, hlt, rfl, List.nodup_cons.2 ⟨fun h => ?_, hnd⟩, fun E hE => ?_, i0, i1, i2, i3⟩, ?_⟩
        · have := HD2.out D h
          omega
        · rcases List.mem_cons.1 hE with rfl | h
          · exact ⟨by omega, hK⟩
          · exact ⟨HD3.out E h, HI4.out E h⟩
        · simp [intOf]
          omega
    · have hlt' : ¬ (j : Int) < len := by omega
      have c0 : wr.cell? ⟨w.heap.size + 1 + 1, 0, none⟩ = some (.int .i64 P) := (Lib.cell_of_heap y2 0).trans rfl
      have c1 : wr.cell? ⟨w.heap.size + 1 + 1, 1, none⟩ = some (.slice (some ⟨w.heap.size + 1, 0, none⟩) N N) := (Lib.cell_of_heap y2 1).trans rfl
      have c2 : wr.cell? ⟨w.heap.size, 0, none⟩ = some (.int .i64 0) := (Lib.cell_of_heap y0 0).trans rfl
      have c3 : wr.cell? ⟨w.heap.size, 1, none⟩ = some (.slice none 0 0) := (Lib.cell_of_heap y0 1).trans rfl
      have f0 := Lib.frozen_of_heap y0 0
      have f1 := Lib.frozen_of_heap y0 1
      have HDS := Lib.hid hds
      clear hds
      have hx1 := heap_put (j := 0) y0 (.int .i64 P)
      have hx2 := heap_put (j := 1) hx1 (.slice (some ⟨w.heap.size + 1, 0, none⟩) N N)
      have b2 := (a1.setCell (p := ⟨w.heap.size, 0, none⟩) (Nat.le_refl _) (.int .i64 P)).setCell (p := ⟨w.heap.size, 1, none⟩) (Nat.le_refl _) (.slice (some ⟨w.heap.size + 1, 0, none⟩) N N)
      have hlj : j = len := by omega
      gi_wp2
      refine leaves_marks Ds _ _ (by simp) hnd (fun D hD => ?_) (fun W' g1 g2 g3 g4 hk => ?_)
      · have hd := HDS.out D hD
        exact (Below.heap_setCell _ _ _ _ (by dsimp only; omega)).trans ((Below.heap_setCell _ _ _ _ (by dsimp only; omega)).trans hd.2)
      · have k0 := (hk w.heap.size (fun h => by have := (HDS.out _ h).1; omega)).trans hx2
        have k1 := (hk (w.heap.size + 1) (fun h => by have := (HDS.out _ h).1; omega)).trans ((Below.heap_setCell _ _ _ _ (by dsimp only; omega)).trans ((Below.heap_setCell _ _ _ _ (by dsimp only; omega)).trans y1))
        have e0 : W'.cell? ⟨w.heap.size, 0, none⟩ = some (.int .i64 P) := (Lib.cell_of_heap k0 0).trans rfl
        have e1 : W'.cell? ⟨w.heap.size, 1, none⟩ = some (.slice (some ⟨w.heap.size + 1, 0, none⟩) N N) := (Lib.cell_of_heap k0 1).trans rfl
        refine ⟨.tuple #[.agg #[.int .i64 P, .slice (some ⟨w.heap.size + 1, 0, none⟩) N N], .int .i64 0], ?_, w.heap.size + 1, ⟨N, rfl⟩, ?_, by omega, b2.trans ⟨g1, g2, g3, by omega, fun k hk' => hk k (fun h => by have := (HDS.out _ h).1; omega)⟩⟩
        · simp [results, Tryz.f26, go_sem, e0, e1]
        · rw [show makeK P N ((List.range len).map fun i => (S i).data.toList) = bsK P N S j by rw [hlj]; rfl]
          exact rowAt_of_heap k1
end Go.Proofs.YtlhdnkfnhdkbkaaGreatDoor
namespace Go.Proofs.YtlhdnkfnhdkbkaaGreatDoor
open Go Go.RowKit Go.Shelf

theorem bits_or_get : ∀ (c : Fin 256) (a b : Fin 8), ((c.val ||| 2 ^ a.val) / 2 ^ b.val % 2 == 1) = (decide (b.val = a.val) || (c.val / 2 ^ b.val % 2 == 1)) ∧ (c.val ||| 2 ^ a.val) < 256 := by decide +kernel
theorem bitK_setK (bs : List UInt8) (k j : Nat) (hk : k < 8 * bs.length) : bitK (setK bs k) j = (decide (j = k) || bitK bs j) := by
  unfold bitK setK
  have hk8 : k / 8 < bs.length := by omega
  have h := bits_or_get ⟨(bs.getD (k / 8) 0).toNat, UInt8.toNat_lt _⟩ ⟨k % 8, Nat.mod_lt _ (by decide)⟩ ⟨j % 8, Nat.mod_lt _ (by decide)⟩
  by_cases e : k / 8 = j / 8
  · have hg : (bs.set (k / 8) (UInt8.ofNat ((bs.getD (k / 8) 0).toNat ||| 2 ^ (k % 8)))).getD (j / 8) 0 = UInt8.ofNat ((bs.getD (k / 8) 0).toNat ||| 2 ^ (k % 8)) := by
      rw [← e]
      simp [List.getD_eq_getElem?_getD, hk8]
    rw [hg, UInt8.toNat_ofNat', Nat.mod_eq_of_lt h.2, ← e]
    refine h.1.trans ?_
    congr 1
    by_cases q : j = k
    · subst q; simp
    · have : j % 8 ≠ k % 8 := by omega
      simp [q, this]
  · have hg : (bs.set (k / 8) (UInt8.ofNat ((bs.getD (k / 8) 0).toNat ||| 2 ^ (k % 8)))).getD (j / 8) 0 = bs.getD (j / 8) 0 := by
      simp [List.getD_eq_getElem?_getD, e]
    rw [hg]
    have : j ≠ k := fun q => e (by rw [q])
    simp [this]
theorem plQ_lt8 (H : UInt64) (n i : Nat) (hn : 0 < n) (hn2 : n ≤ 100000) : (plQ H (8 * n) i).toNat < 8 * n := plQ_lt H (8 * n) i ⟨by omega, by omega⟩
/-- A bit is set if it was, or a key's place is there. -/
theorem bitK_putKey (p : Nat) (bs : List UInt8) (key : List UInt8) (j : Nat) (hn : 0 < bs.length) (hn2 : bs.length ≤ 100000) :
    bitK (putKey p bs key) j = (((List.range p).any fun i => (plQ (hashL key) (8 * bs.length) i).toNat == j) || bitK bs j) := by
  have H : ∀ (l : List Nat) (b : List UInt8), b.length = bs.length → bitK (l.foldl (fun b i => setK b (plQ (hashL key) (8 * bs.length) i).toNat) b) j = ((l.any fun i => (plQ (hashL key) (8 * bs.length) i).toNat == j) || bitK b j) := by
    intro l
    induction l with
    | nil => intro b hb; simp
    | cons i l ih =>
      intro b hb
      rw [List.foldl_cons, ih _ (by rw [setK_length, hb]), bitK_setK _ _ _ (by rw [hb]; exact plQ_lt8 _ _ _ hn hn2), List.any_cons]
      have e : decide (j = (plQ (hashL key) (8 * bs.length) i).toNat) = ((plQ (hashL key) (8 * bs.length) i).toNat == j) := by
        rw [Bool.eq_iff_iff, decide_eq_true_iff, beq_iff_eq]; exact eq_comm
      rw [e]
      cases ((plQ (hashL key) (8 * bs.length) i).toNat == j) <;> cases (l.any fun i => (plQ (hashL key) (8 * bs.length) i).toNat == j) <;> rfl
  exact H _ bs rfl
theorem bitK_zero (n j : Nat) : bitK (List.replicate n 0) j = false := by
  unfold bitK
  have : (List.replicate n (0 : UInt8)).getD (j / 8) 0 = 0 := by
    rw [List.getD_eq_getElem?_getD, List.getElem?_replicate]
    split <;> rfl
  rw [this]
  simp
theorem makeK_length (p n : Nat) (keys : List (List UInt8)) : (makeK p n keys).length = n := by
  unfold makeK
  have : ∀ (l : List (List UInt8)) (b : List UInt8), (l.foldl (putKey p) b).length = b.length := by
    intro l
    induction l with
    | nil => intro b; rfl
    | cons i l ih => intro b; rw [List.foldl_cons, ih, putKey_length]
  rw [this, List.length_replicate]
/-- The bits of a filter of keys. -/
theorem bitK_makeK (p n : Nat) (keys : List (List UInt8)) (j : Nat) (hn : 0 < n) (hn2 : n ≤ 100000) :
    bitK (makeK p n keys) j = keys.any fun key => (List.range p).any fun i => (plQ (hashL key) (8 * n) i).toNat == j := by
  unfold makeK
  have H : ∀ (l : List (List UInt8)) (b : List UInt8), b.length = n → bitK (l.foldl (putKey p) b) j = ((l.any fun key => (List.range p).any fun i => (plQ (hashL key) (8 * n) i).toNat == j) || bitK b j) := by
    intro l
    induction l with
    | nil => intro b hb; simp
    | cons key l ih =>
      intro b hb
      rw [List.foldl_cons, ih _ (by rw [putKey_length, hb]), bitK_putKey _ _ _ _ (by rw [hb]; exact hn) (by rw [hb]; exact hn2), List.any_cons, hb]
      cases (List.range p).any (fun i => (plQ (hashL key) (8 * n) i).toNat == j) <;> cases (l.any fun key => (List.range p).any fun i => (plQ (hashL key) (8 * n) i).toNat == j) <;> rfl
  rw [H _ _ (by simp), bitK_zero]
  simp
/-- No key that is there is missed. -/
theorem may_has (p n : Nat) (keys : List (List UInt8)) (key : List UInt8) (hk : key ∈ keys) (hn : 0 < n) (hn2 : n ≤ 100000) : mayB (makeK p n keys) (hashL key) p = true := by
  unfold mayB
  rw [List.all_eq_true]
  intro i hi
  rw [makeK_length, bitK_makeK p n keys _ hn hn2, List.any_eq_true]
  exact ⟨key, hk, List.any_eq_true.2 ⟨i, hi, by simp⟩⟩
/-- Of more keys no fewer may be there. -/
theorem may_more (p n : Nat) (a b : List (List UInt8)) (H : UInt64) (hab : ∀ k ∈ a, k ∈ b) (hn : 0 < n) (hn2 : n ≤ 100000) (h : mayB (makeK p n a) H p = true) : mayB (makeK p n b) H p = true := by
  unfold mayB at *
  rw [List.all_eq_true] at *
  intro i hi
  have h2 := h i hi
  rw [makeK_length, bitK_makeK p n _ _ hn hn2, List.any_eq_true] at *
  obtain ⟨k, hk, h3⟩ := h2
  exact ⟨k, hab k hk, h3⟩
theorem mayF_has (p n : Nat) (keys : List (List UInt8)) (key : List UInt8) (hk : key ∈ keys) (hn : 0 < n) (hn2 : n ≤ 100000) : mayF p (makeK p n keys) (hashL key) = true := by
  unfold mayF
  rw [Int.toNat_natCast, may_has p n keys key hk hn hn2, Bool.or_true]
theorem mayF_more (p n : Nat) (a b : List (List UInt8)) (H : UInt64) (hab : ∀ k ∈ a, k ∈ b) (hn : 0 < n) (hn2 : n ≤ 100000) (h : mayF p (makeK p n a) H = true) : mayF p (makeK p n b) H = true := by
  unfold mayF at *
  rw [Int.toNat_natCast, makeK_length] at *
  cases hg : goodB p n with
  | false => rfl
  | true =>
    rw [hg] at h
    simp only [Bool.not_true, Bool.false_or] at *
    exact may_more p n a b H hab hn hn2 h
theorem sizeK_pos (m each : Nat) : 0 < sizeK m each := by unfold sizeK; omega
theorem sizeK_le (m each : Nat) (hm : m ≤ 2048) (he : each ≤ 32) : sizeK m each ≤ 8193 := by
  have := Nat.mul_le_mul hm he
  unfold sizeK
  omega
end Go.Proofs.YtlhdnkfnhdkbkaaGreatDoor
namespace Go.Proofs.YtlhdnkfnhdkbkaaGreatDoor
open Go Go.RowKit

/-- All bytes of these segments are sure. -/
def AllSure (l : List Seg) : Prop := ∀ s ∈ l, s.sure = s.bytes.length
theorem AllSure.turn {pre : List Seg} (h : AllSure pre) (now : Nat) (cur : List (List UInt8)) : AllSure (pre ++ curS now cur) := by
  intro s hs
  rcases List.mem_append.1 hs with hs | hs
  · exact h s hs
  · rcases curS_cases now cur with ⟨_, e⟩ | ⟨_, e⟩
    · rw [e] at hs; cases hs
    · rw [e] at hs
      rw [List.mem_singleton.1 hs]
      rfl
theorem crash_sure (f : DFile) (h : f.sure = f.bytes.length) (k : Int) : crashF f k = f := by
  have hk : crashK f k = 0 := by
    unfold crashK
    rw [h, show ((f.bytes.length : Int) - (f.bytes.length : Nat) + 1) = 1 by omega, Int.emod_one]
    rfl
  unfold crashF
  rw [hk, h]
  simp
  cases f
  simp at h
  simp [h]
theorem mapIdx_self {α : Type} (g : Nat → α → α) : ∀ (l : List α), (∀ i x, x ∈ l → g i x = x) → l.mapIdx g = l := by
  intro l h
  apply List.ext_getElem
  · simp
  · intro i h1 h2
    rw [List.getElem_mapIdx]
    exact h i _ (List.getElem_mem _)
theorem JS.crash {room : Int} {pre : List Seg} {now : Nat} {cur want : List (List UInt8)} {d : DDisk} (h : JS room pre now cur want d) (hs : AllSure pre) (ks : List Int) : crashD d ks = d := by
  have ha := hs.turn now cur
  have : crashTo ks d.files d.files.length = d.files := by
    unfold crashTo
    rw [List.take_length, List.drop_length, List.append_nil]
    refine mapIdx_self _ _ fun i x hx => ?_
    refine crash_sure x ?_ _
    rw [h.dis] at hx
    obtain ⟨s, hs', rfl⟩ := List.mem_map.1 hx
    exact ha s hs'
  unfold crashD
  rw [this]
  have e := h.dis
  rw [e]
theorem strs_inF {w : World} {v : Value} {K : List (List UInt8)} (h : StrsAt w v K) : InStrs w v K.length (fun i => stx (K.getD i [])) := by
  obtain ⟨ao, cap, rfl, h2⟩ := h
  refine ⟨ao, cap, rfl, fun i hi => ?_⟩
  obtain ⟨g, rfl, h3⟩ := h2 i hi
  refine ⟨_, rfl, ?_⟩
  rw [show (⟨g, 0, none⟩ : Addr).add i = ⟨g, i, none⟩ by simp [Addr.add]; exact fun e => e.symm]
  exact h3
theorem bytesIn_past {w W : World} {ao : Option Addr} {bs : List UInt8} (h : BytesIn w ao bs) (hb : Below w.heap.size w W) : BytesIn W ao bs := fun i hi => by
  obtain ⟨g, o, h1, h2⟩ := h i hi
  exact ⟨g, o, h1, (hb.cell (p := ⟨g, o + i, none⟩) (cellLt h2)).trans h2⟩
/-- A filter of texts, ten bits each. -/
theorem make_ten (v : Value) (K : List (List UInt8)) (w : World) (h : StrsAt w v K) (h1 : ∀ t ∈ K, t.length ≤ 60) (h2 : K.length ≤ 30) : ∃ (p n : Nat) (bs : List UInt8), bs.length = n ∧ (∀ k ∈ K, mayF p bs (hashL k) = true) ∧
    Calls Tryz.prog 26 #[v, .int .i64 10] w fun e w' => ∃ g cap, e = .returned (.tuple #[.agg #[.int .i64 p, .slice (some ⟨g, 0, none⟩) n cap], .int .i64 0]) ∧ BytesIn w' (some ⟨g, 0, none⟩) bs ∧ Below w.heap.size w w' := by
  have hn1 := sizeK_pos K.length 10
  have hn2 := sizeK_le K.length 10 (by omega) (by decide)
  have hbl := makeK_length (probesK 10) (sizeK K.length 10) K
  refine ⟨probesK 10, sizeK K.length 10, makeK (probesK 10) (sizeK K.length 10) K, hbl, fun k hk => mayF_has _ _ K k hk hn1 (by omega), ?_⟩
  refine (make_any v K.length _ 10 w (strs_inF h) (fun i hi => ?_) (by decide) (by omega)).mono ?_
  · have hg : K.getD i [] = K[i] := by simp [hi]
    have := h1 _ (List.getElem_mem hi)
    show (stx (K.getD i [])).size ≤ _
    rw [hg, stx_size]
    omega
  · rintro e w' ⟨g, cap, rfl, hr, h3, h4⟩
    refine ⟨g, cap, rfl, fun i hi => ⟨g, 0, rfl, ?_⟩, h4⟩
    rw [Nat.zero_add]
    have hK : (List.range K.length).map (fun i => (stx (K.getD i [])).data.toList) = K := by
      apply List.ext_getElem
      · simp
      · intro i h1 h2
        simp [h2]
    have hr2 := cell_of_rowAt hr i
    refine hr2.trans ?_
    have := cellsB8_get (makeK (probesK 10) (sizeK K.length 10) K) i hi
    rw [← this]
    unfold makeK
    rw [hK]
    rfl
end Go.Proofs.YtlhdnkfnhdkbkaaGreatDoor
namespace Go.Proofs.YtlhdnkfnhdkbkaaGreatDoor
open Go Go.ChangeShapes Go.WideShapes Go.ChangeAt Go.ChangeMaps Go.RowKit

theorem table_of {P : Program} {W : World} {enc : TypeId × Value → Unit} {sp : Nat → Bool} {T e n g fuel : Nat} {L : List Nat} {cs : Array Value} {ps : List MemPlace} (hcell : ∀ i, W.cell? ⟨g, i, none⟩ = cs[i]?)
    (hu : P.underlying T = some (.array n e)) (he : P.underlying e = some (.int .u32)) (ce : P.cellsOf e = 1) (hn : L.length = n)
    (hd : DataW.trod enc P W 0 sp false fuel T cs.toList = some (.agg (L.map fun k : Nat => .lit (.int .u32 (k : Int))), ps)) : ∀ i, i < n → W.cell? ⟨g, i, none⟩ = some (.int .u32 (L.getD i 0 : Nat)) := by
  obtain ⟨xs, m, _, hx, _, hl, hel⟩ := DataW.trod_array hu hd
  intro i hi
  have h1 := hel i hi
  rw [ce, List.getElem?_eq_getElem (show i < xs.length by omega)] at h1
  obtain ⟨k, e1, e2, _⟩ := DataW.trod_int he h1
  simp only [Prod.mk.injEq, DataW.agg.injEq] at hx
  have h2 : (L.map fun k : Nat => (DataW.lit (.int .u32 (k : Int)) : DataW Unit))[i]? = (xs.map (·.1))[i]? := by rw [hx.1]
  rw [List.getElem?_map, List.getElem?_map, List.getElem?_eq_getElem (show i < xs.length by omega), List.getElem?_eq_getElem (show i < L.length by omega), e2] at h2
  simp only [Option.map_some, Option.some.injEq, DataW.lit.injEq, Lit.int.injEq, true_and] at h2
  rw [hcell i, List.getD_eq_getElem?_getD, List.getElem?_eq_getElem (show i < L.length by omega)]
  have h3 : (List.take 1 (List.drop (i * 1) cs.toList))[0]? = some (.int .u32 k) := by rw [e1]; rfl
  have h4 : cs[i]? = some (.int .u32 k) := by simpa using h3
  rw [h4, ← h2]
  rfl

theorem gLow : Tryz.prog.globalNamed "chirograph/seal.low" = some 0 := by kernel_rfl
theorem gHigh : Tryz.prog.globalNamed "chirograph/seal.high" = some 1 := by kernel_rfl
theorem tLow : (Tryz.prog.globals[0]?).map (·.type) = some 125 := by kernel_rfl
theorem tHigh : (Tryz.prog.globals[1]?).map (·.type) = some 125 := by kernel_rfl
def laidSeal {H : Type} : List (String × DataW H) := [("chirograph/seal.low", Rows.laid_chirograph_seal_low), ("chirograph/seal.high", Rows.laid_chirograph_seal_high)]
theorem cellsOf_u32 : Tryz.prog.cellsOf 82 = 1 := by kernel_rfl
/-- What the condition gives: the tables lie there. -/
theorem tabs_of_laid {W : World} (h : laidMetH Tryz.prog laidSeal W) : Tabs W := by
  rw [MakeChecks.laidMetH_plain _ _ _ (by kernel_rfl)] at h
  obtain ⟨ps, ⟨g0, t0, cs0, f0, p0, q0, hg0, ht0, hv0, hd0, ⟨g1, t1, cs1, f1, p1, q1, hg1, ht1, hv1, hd1, _, _⟩, _⟩, _, _⟩ := h
  obtain rfl := Option.some.inj (gLow.symm.trans hg0)
  obtain rfl := Option.some.inj (gHigh.symm.trans hg1)
  obtain rfl := Option.some.inj (tLow.symm.trans ht0)
  obtain rfl := Option.some.inj (tHigh.symm.trans ht1)
  exact ⟨table_of (L := lowL) (World.var?_cell gLow hv0) Tryz.underlying125 Tryz.underlying82 cellsOf_u32 rfl hd0, table_of (L := highL) (World.var?_cell gHigh hv1) Tryz.underlying125 Tryz.underlying82 cellsOf_u32 rfl hd1⟩
/-- The door's own heap meets the condition. -/
theorem door_seal (os : Os) (args : Array Value) : laidMetH Tryz.prog laidSeal ((World.doorLaid Tryz.prog 2000 os).forCall (fun _ _ => 0) ⟨#[], args, []⟩).memory :=
  laidMetH_of_parts3 (fuel := 8) (laidMet_of_run' 8 (by kernel_rfl) (by kernel_rfl)) (by kernel_rfl) (by kernel_rfl)
end Go.Proofs.YtlhdnkfnhdkbkaaGreatDoor
namespace Go.Proofs.YtlhdnkfnhdkbkaaGreatDoor
open Go Go.ChangeShapes Go.WideShapes Go.ChangeAt Go.ChangeMaps Go.RowKit

def laidJ {H : Type} : List (String × DataW H) := [("math/bits.deBruijn32tab", Rows.laid_math_bits_deBruijn32tab), ("math/bits.deBruijn64tab", Rows.laid_math_bits_deBruijn64tab), ("internal/strconv.uint64pow10", Rows.laid_internal_strconv_uint64pow10), ("strconv.ErrRange", Rows.laid_strconv_ErrRange), ("strconv.ErrSyntax", Rows.laid_strconv_ErrSyntax), ("chirograph/seal.low", Rows.laid_chirograph_seal_low), ("chirograph/seal.high", Rows.laid_chirograph_seal_high)]
/-- What the condition gives: the tables lie there. -/
theorem tabsJ_of_laid {W : World} (h : laidMetH Tryz.prog laidJ W) : Tabs W := by
  rw [MakeChecks.laidMetH_plain _ _ _ (by kernel_rfl)] at h
  obtain ⟨ps, ⟨_, _, _, _, _, _, _, _, _, _, ⟨_, _, _, _, _, _, _, _, _, _, ⟨_, _, _, _, _, _, _, _, _, _, ⟨_, _, _, _, _, _, _, _, _, _, ⟨_, _, _, _, _, _, _, _, _, _, ⟨g0, t0, cs0, f0, p0, q0, hg0, ht0, hv0, hd0, ⟨g1, t1, cs1, f1, p1, q1, hg1, ht1, hv1, hd1, _, _⟩, _⟩, _⟩, _⟩, _⟩, _⟩, _⟩, _, _⟩ := h
  obtain rfl := Option.some.inj (gLow.symm.trans hg0)
  obtain rfl := Option.some.inj (gHigh.symm.trans hg1)
  obtain rfl := Option.some.inj (tLow.symm.trans ht0)
  obtain rfl := Option.some.inj (tHigh.symm.trans ht1)
  exact ⟨table_of (L := lowL) (World.var?_cell gLow hv0) Tryz.underlying125 Tryz.underlying82 cellsOf_u32 rfl hd0, table_of (L := highL) (World.var?_cell gHigh hv1) Tryz.underlying125 Tryz.underlying82 cellsOf_u32 rfl hd1⟩
/-- The door's own heap meets the condition. -/
theorem door_J (os : Os) (args : Array Value) : laidMetH Tryz.prog laidJ ((World.doorLaid Tryz.prog 2000 os).forCall (fun _ _ => 0) ⟨#[], args, []⟩).memory :=
  laidMetH_of_parts3 (fuel := 8) (laidMet_of_run' 8 (by kernel_rfl) (by kernel_rfl)) (by kernel_rfl) (by kernel_rfl)
end Go.Proofs.YtlhdnkfnhdkbkaaGreatDoor
