/- Numbers as eight bytes, the texts of items and leaves, the bytes that are summed of them, the program's and the document's. Conditions: none. -/
import Derived.Test.YtnffmgpnhlcakaaDoorNode1
import Derived.Test.YtnffmgpnhlcakaaDoorShaRef1
import Derived.Test.YtnffmgpnhlcakaaDoorRow
import Derived.Test.YtnffmgpnhlcakaaDoorMath
import Derived.Test.YtnffmgpnhlcakaaDoorRef2n
import Derived.Test.YtnffmgpnhlcakaaDoorWild
import Derived.Test.YtnffmgpnhlcakaaDoorBits3
namespace Go.Proofs.YtnffmgpnhlcakaaDoor
open Go Go.RowKit

/-- The last k bytes of a number, the highest first. -/
def digs (m k : Nat) : List UInt8 := (List.range k).map fun j => UInt8.ofNat (m / 256 ^ (k - 1 - j))
theorem digs_len (m k : Nat) : (digs m k).length = k := by simp [digs]
theorem digs_cons (m k : Nat) : digs m (k + 1) = UInt8.ofNat (m / 256 ^ k) :: digs m k := by
  unfold digs
  rw [List.range_succ_eq_map, List.map_cons, List.map_map]
  congr 1
  apply List.map_congr_left
  intro j _
  show UInt8.ofNat (m / 256 ^ (k + 1 - 1 - (j + 1))) = _
  congr 3
  omega
/-- A number as one that isn't below 0. -/
def unat (n : Int) : Nat := (n % 18446744073709551616).toNat
def eightL (n : Int) : List UInt8 := digs (unat n) 8
theorem eightL_len (n : Int) : (eightL n).length = 8 := digs_len _ _
theorem unat_int (n : Int) : IntKind.u64.wrap n = (unat n : Int) := by
  show n % 2 ^ IntKind.u64.bits = _
  rw [show (2 : Int) ^ IntKind.u64.bits = 18446744073709551616 from rfl]
  unfold unat
  omega
theorem unat_lt (n : Int) : unat n < 18446744073709551616 := by unfold unat; omega
theorem unat_inj {n m : Int} (hn0 : -9223372036854775808 ≤ n) (hn1 : n ≤ 9223372036854775807) (hm0 : -9223372036854775808 ≤ m) (hm1 : m ≤ 9223372036854775807) (h : unat n = unat m) : n = m := by
  unfold unat at h
  omega
theorem digs_inj : ∀ {k m n : Nat}, m < 256 ^ k → n < 256 ^ k → digs m k = digs n k → m = n
  | 0, m, n, hm, hn, _ => by simp at hm hn; omega
  | k + 1, m, n, hm, hn, h => by
    rw [digs_cons, digs_cons] at h
    injection h with h1 h2
    have hm' : m / 256 ^ k < 256 := by rw [Nat.div_lt_iff_lt_mul (Nat.pow_pos (by decide))]; rw [Nat.pow_succ] at hm; omega
    have hn' : n / 256 ^ k < 256 := by rw [Nat.div_lt_iff_lt_mul (Nat.pow_pos (by decide))]; rw [Nat.pow_succ] at hn; omega
    have h3 : m / 256 ^ k = n / 256 ^ k := by
      have := congrArg UInt8.toNat h1
      rw [UInt8.toNat_ofNat', UInt8.toNat_ofNat'] at this
      generalize m / 256 ^ k = p at *
      generalize n / 256 ^ k = q at *
      omega
    have low : ∀ x : Nat, digs x k = digs (x % 256 ^ k) k := by
      intro x
      unfold digs
      apply List.map_congr_left
      intro j hj
      have hj : j < k := by simpa using hj
      have e : 256 ^ k = 256 ^ (k - 1 - j) * (256 * 256 ^ j) := by
        rw [← Nat.pow_succ', ← Nat.pow_add]
        congr 1
        omega
      have e2 : x % 256 ^ k / 256 ^ (k - 1 - j) = x / 256 ^ (k - 1 - j) % (256 * 256 ^ j) := by
        rw [e, Nat.mod_mul_right_div_self]
      rw [e2]
      apply UInt8.toNat_inj.1
      rw [UInt8.toNat_ofNat', UInt8.toNat_ofNat', Nat.mod_mul_right_mod]
    rw [low m, low n] at h2
    have h4 := digs_inj (Nat.mod_lt m (Nat.pow_pos (by decide))) (Nat.mod_lt n (Nat.pow_pos (by decide))) h2
    rw [← Nat.div_add_mod m (256 ^ k), ← Nat.div_add_mod n (256 ^ k), h3, h4]
theorem eightL_inj {n m : Int} (hn : (Lit.int .i64 n).wf = true) (hm : (Lit.int .i64 m).wf = true) (h : eightL n = eightL m) : n = m := by
  have h1 := wf_i64 hn
  have h2 := wf_i64 hm
  exact unat_inj h1.1 h1.2 h2.1 h2.2 (digs_inj (by have := unat_lt n; omega) (by have := unat_lt m; omega) h)

/-- The row of a number's bytes, as many laid as i. -/
def octCell (m i j : Nat) : Nat := if j < i then m / 256 ^ (7 - j) % 256 else 0
def octRow (m i : Nat) : Array Value := ((List.range 8).map fun j => Value.int .u8 (octCell m i j)).toArray
theorem octRow_zero (m : Nat) : octRow m 0 = #[.int .u8 0, .int .u8 0, .int .u8 0, .int .u8 0, .int .u8 0, .int .u8 0, .int .u8 0, .int .u8 0] := by
  simp [octRow, octCell, List.range_succ]
theorem octRow_put (m i : Nat) (hi : i < 8) : (octRow m i).setIfInBounds i (.int .u8 ((m / 256 ^ (7 - i) % 256 : Nat) : Int)) = octRow m (i + 1) := by
  apply Array.ext_getElem?
  intro j
  rw [Array.getElem?_setIfInBounds]
  unfold octRow
  by_cases e : i = j
  · subst e
    simp [hi, octCell]
  · rw [if_neg e]
    by_cases h1 : j < 8
    · have h3 : (j < i + 1) ↔ (j < i) := by omega
      simp [h1, octCell, h3]
    · simp [h1]
theorem octRow_get (m i j : Nat) (h : j < 8) : (octRow m i)[j]? = some (.int .u8 (octCell m i j)) := by simp [octRow, h]

set_option maxRecDepth 100000 in
theorem noctets_any (n : Int) (w : World) : Calls Tryd.prog 74 #[.int .i64 n] w fun e w' => e = .returned (.string (stx (eightL n))) ∧ Below w.heap.size w w' := by
  obtain ⟨m, hm⟩ : ∃ m, unat n = m := ⟨_, rfl⟩
  have hw := unat_int n
  rw [eightL, hm]
  rw [hm] at hw
  have hm1 := unat_lt n
  rw [hm] at hm1
  obtain ⟨x, hx⟩ : ∃ x : Int, (m : Int) = x := ⟨_, rfl⟩
  have HX := Lib.hid hx
  have hx0 : 0 ≤ x := by omega
  have hx1 : x < 18446744073709551616 := by omega
  rw [hx] at hw
  have HZ := Lib.hid (octRow_zero m)
  clear hm hm1 hx
  go_enter Tryd.func74, Tryd.ntmps74
  go_wp2_with fail
  rw [← HZ.out]
  have r0 : rowAt (w.alloc (.cells (octRow m 0) 130)) w.heap.size = some (octRow m 0) := rowAt_alloc_at _ _ _ _ rfl
  have b0 : Below w.heap.size w (w.alloc (.cells (octRow m 0) 130)) := (Below.refl _ _).alloc (Nat.le_refl _) _
  generalize hg : w.heap.size = g at *
  generalize w.alloc (.cells (octRow m 0) 130) = W at *
  go_loopw [4, 5] (fun _ t wr => ∃ i : Nat, i ≤ 8 ∧ t = .int .i64 i ∧ rowAt wr g = some (octRow m i) ∧ Below g w wr) (fun _ t _ => (8 - intOf t).toNat)
  case atStart => exact ⟨0, by omega, rfl, r0, b0⟩
  case round =>
    obtain ⟨i, hi, rfl, k0, b5⟩ := hrel
    clear r0 b0
    by_cases hlt : i < 8
    · have hlt' : (i : Int) < 8 := by omega
      obtain ⟨d, hd⟩ : ∃ d, 56 - 8 * i = d := ⟨_, rfl⟩
      have hsub : (56 : Int) - 8 * (i : Int) = (d : Int) := by omega
      have hd9 : (d : Int) ≤ 56 := by omega
      have c1 := (cell_of_rowAt k0 i).trans (octRow_get m i i hlt)
      have f1 := frozen_of_rowAt k0 i
      go_wp2_with fail
      have hval : x / 2 ^ d % 256 = ((m / 256 ^ (7 - i) % 256 : Nat) : Int) := by
        rw [← HX.out, div_pow_cast, show d = 8 * (7 - i) by omega, Nat.pow_mul]
        rfl
      rw [hval]
      refine ⟨⟨i + 1, hlt, by go_num, ?_, Below.setCell b5 (Nat.le_refl g) _⟩, by simp [intOf]; omega⟩
      rw [← octRow_put m i hlt]
      exact rowAt_setCell_same k0 i _
    · obtain rfl : i = 8 := by omega
      have hconv : (convert 78 9 (.slice (some ⟨g, 0, none⟩) 8 8)).run Tryd.prog wr = .ok (.string (stx (digs m 8))) wr := by
        have q := run_convert_bytes_back (P := Tryd.prog) wr 78 9 5 ⟨g, 0, none⟩ 8 (digs m 8) Tryd.underlying78 Tryd.underlying5 Tryd.underlying9 ?_
        · rw [digs_len] at q
          exact q
        intro j hj
        rw [digs_len] at hj
        rw [show (⟨g, 0, none⟩ : Addr).add j = ⟨g, j, none⟩ by simp [Addr.add]; exact fun e => e.symm, cell_of_rowAt k0, octRow_get m 8 j hj, octCell, if_pos hj]
        simp [digs]
      go_wp2_with fail
      go_ret
      exact ⟨rfl, by rw [hg]; exact b5⟩
end Go.Proofs.YtnffmgpnhlcakaaDoor
namespace Go.Proofs.YtnffmgpnhlcakaaDoor
open Go Go.RowKit

theorem row_ret_item {fn : Func} {p : Tmp} (h : fn.results = #[.cell p 43]) {R : Ending → World → Prop} {a : Act} {w : World} {b : Nat} {l : Itm} (hp : a.tmps.getD p undef = .pointer (some ⟨b, 0, none⟩)) (hd : a.defers = [])
    (hr : rowAt w b = some (cellsI l)) (hR : R (.returned (.agg (cellsI l))) w) : bodyPost Tryd.prog fn R .ret a w :=
  bodyPost_ret (results_row h a.tmps w b _ _ hp hr Tryd.underlying43 rfl (by rw [size_cellsI]; kernel_rfl)) hd hR
theorem row_ret_ritem {fn : Func} {p : Tmp} (h : fn.results = #[.cell p 33]) {R : Ending → World → Prop} {a : Act} {w : World} {b : Nat} {l : Itm} (hp : a.tmps.getD p undef = .pointer (some ⟨b, 0, none⟩)) (hd : a.defers = [])
    (hr : rowAt w b = some (cellsI l)) (hR : R (.returned (.agg (cellsI l))) w) : bodyPost Tryd.prog fn R .ret a w :=
  bodyPost_ret (results_row h a.tmps w b _ _ hp hr Tryd.underlying33 rfl (by rw [size_cellsI]; kernel_rfl)) hd hR
theorem row_ret_leaf {fn : Func} {p : Tmp} (h : fn.results = #[.cell p 37]) {R : Ending → World → Prop} {a : Act} {w : World} {b : Nat} {l : Lf} (hp : a.tmps.getD p undef = .pointer (some ⟨b, 0, none⟩)) (hd : a.defers = [])
    (hr : rowAt w b = some (cellsF l)) (hR : R (.returned (.agg (cellsF l))) w) : bodyPost Tryd.prog fn R .ret a w :=
  bodyPost_ret (results_row h a.tmps w b _ _ hp hr Tryd.underlying37 rfl (by rw [size_cellsF]; kernel_rfl)) hd hR
theorem row_ret_rleaf {fn : Func} {p : Tmp} (h : fn.results = #[.cell p 31]) {R : Ending → World → Prop} {a : Act} {w : World} {b : Nat} {l : Lf} (hp : a.tmps.getD p undef = .pointer (some ⟨b, 0, none⟩)) (hd : a.defers = [])
    (hr : rowAt w b = some (cellsF l)) (hR : R (.returned (.agg (cellsF l))) w) : bodyPost Tryd.prog fn R .ret a w :=
  bodyPost_ret (results_row h a.tmps w b _ _ hp hr Tryd.underlying31 rfl (by rw [size_cellsF]; kernel_rfl)) hd hR

set_option maxRecDepth 100000 in
theorem r15Eight_any (n : Int) (w : World) : Calls Tryd.prog 51 #[.int .i64 n] w fun e w' => e = .returned (.string (stx (eightL n))) ∧ Below w.heap.size w w' := by
  obtain ⟨m, hm⟩ : ∃ m, unat n = m := ⟨_, rfl⟩
  have hw := unat_int n
  rw [eightL, hm]
  rw [hm] at hw
  have hm1 := unat_lt n
  rw [hm] at hm1
  obtain ⟨x, hx⟩ : ∃ x : Int, (m : Int) = x := ⟨_, rfl⟩
  have hx1 : x < 18446744073709551616 := by omega
  have hx0 : 0 ≤ x := by omega
  have HX0 : Hid (((m / 256 ^ 0 : Nat) : Int) = x) := Lib.hid (by rw [Nat.pow_zero, Nat.div_one]; exact hx)
  rw [hx] at hw
  clear hm hm1 hx
  go_enter Tryd.func51, Tryd.ntmps51
  go_wp2_with fail
  go_loopw [3, 4, 5] (fun s x t wr => ∃ (i : Nat) (y : Int), i ≤ 8 ∧ 0 ≤ y ∧ y < 18446744073709551616 ∧ t = .int .i64 i ∧ x = .int .u64 y ∧ Hid (((m / 256 ^ i : Nat) : Int) = y) ∧ Hid (s = .string (stx (digs m i))) ∧ Below w.heap.size w wr) (fun _ _ t _ => (8 - intOf t).toNat)
  case atStart => exact ⟨0, x, by omega, hx0, hx1, rfl, rfl, HX0, Lib.hid rfl, Below.refl _ _⟩
  case round =>
    obtain ⟨i, y, hi, hy0, hy1, rfl, rfl, HY, HX, b0⟩ := hrel
    have hx := HX.out
    subst hx
    clear HX0 hx0 hx1 hw
    by_cases hlt : i < 8
    · have hlt' : (i : Int) < 8 := by omega
      have hc := r2conv_one wr (y.toNat % 256) (Nat.mod_lt _ (by decide))
      rw [show ((y.toNat % 256 : Nat) : Int) = y % 256 by omega] at hc
      have b1 : Below w.heap.size w (wr.alloc (.cells #[.int .u8 (y % 256)] 5)) := b0.alloc b0.size _
      have z1 : (stx (digs m i)).size = i := by rw [stx_size, digs_len]
      have z2 : (txt [UInt8.ofNat (y.toNat % 256)]).size = 1 := rfl
      have HS : Hid (txt [UInt8.ofNat (y.toNat % 256)] ++ stx (digs m i) = stx (digs m (i + 1))) := Lib.hid (by
        rw [show txt [UInt8.ofNat (y.toNat % 256)] = stx [UInt8.ofNat (y.toNat % 256)] from rfl, stx_append, digs_cons, List.singleton_append]
        have e : m / 256 ^ i = y.toNat := by have := HY.out; omega
        rw [e]
        congr 2
        apply UInt8.toNat_inj.1
        simp)
      have HY2 : Hid (((m / 256 ^ (i + 1) : Nat) : Int) = y / 256) := Lib.hid (by
        rw [Nat.pow_succ, ← Nat.div_div_eq_div_mul, ← HY.out]
        rfl)
      have hyq : y / 256 < 18446744073709551616 := by omega
      have hyq0 : 0 ≤ y / 256 := by omega
      have hym : y % 256 % 256 = y % 256 := by omega
      generalize txt [UInt8.ofNat (y.toNat % 256)] = D at *
      generalize stx (digs m i) = D2 at *
      clear HY HX b0
      go_wp2_with fail
      rw [HS.out]
      exact ⟨⟨i + 1, y / 256, hlt, hyq0, hyq, by go_num, rfl, HY2, Lib.hid rfl, b1⟩, by simp [intOf]; omega⟩
    · obtain rfl : i = 8 := by omega
      go_wp2_with fail
      go_ret
      exact ⟨rfl, b0⟩

/-- What is summed. -/
def leafT (x : Lf) : List (List UInt8) := [x.a.l, x.v.l, eightL x.e]
def itemT (x : Itm) : List UInt8 := eightL x.n ++ x.b.l ++ x.s.l ++ eightL x.e
def innerT (x y : Itm) : List (List UInt8) := [itemT x, itemT y]
def leafB (x : Lf) : List UInt8 := joinL 16 (leafT x)
def innerB (x y : Itm) : List UInt8 := joinL 17 (innerT x y)
theorem itemT_len (x : Itm) : (itemT x).length = 80 := by
  simp [itemT, eightL_len, x.b.h, x.s.h]
theorem leafT_short (x : Lf) : ∀ t ∈ leafT x, t.length ≤ 100 := by
  intro t ht
  simp only [leafT, List.mem_cons, List.not_mem_nil, or_false] at ht
  rcases ht with rfl | rfl | rfl
  · rw [x.a.h]; decide
  · rw [x.v.h]; decide
  · rw [eightL_len]; decide
theorem innerT_short (x y : Itm) : ∀ t ∈ innerT x y, t.length ≤ 100 := by
  intro t ht
  simp only [innerT, List.mem_cons, List.not_mem_nil, or_false] at ht
  rcases ht with rfl | rfl <;> rw [itemT_len] <;> decide
end Go.Proofs.YtnffmgpnhlcakaaDoor
namespace Go.Proofs.YtnffmgpnhlcakaaDoor
open Go Go.RowKit

theorem conv_at (a : Lab) (w : World) (b o cap : Nat) (c : Array Value) (h : rowAt w b = some c) (hx : c.extract o (o + 32) = cellsL a) : (convert 78 9 (.slice (some ⟨b, o, none⟩) 32 cap)).run Tryd.prog w = .ok (.string (stx a.l)) w := by
  have hl := a.h
  have q := run_convert_bytes_back (P := Tryd.prog) w 78 9 5 ⟨b, o, none⟩ cap a.l Tryd.underlying78 Tryd.underlying5 Tryd.underlying9 ?_
  · rw [hl] at q
    exact q
  intro j hj
  rw [show (⟨b, o, none⟩ : Addr).add j = ⟨b, o + j, none⟩ by simp [Addr.add], cell_of_rowAt h]
  have e := congrArg (fun x : Array Value => x[j]?) hx
  simp only [Array.getElem?_extract] at e
  have hz : (cellsL a)[j]? = some (.int .u8 (a.l[j].toNat : Int)) := by
    simp only [cellsL, List.getElem?_toArray]
    rw [List.getElem?_map, List.getElem?_eq_getElem hj]
    rfl
  rw [hz] at e
  split at e
  · exact e
  · cases e
theorem strs_at2 (w : World) (t u : List UInt8) (n : Nat) (hn : n = w.heap.size) : StrsAt (w.alloc (.cells #[.string (stx t), .string (stx u)] 9)) (.slice (some ⟨n, 0, none⟩) 2 2) [t, u] := by
  subst hn
  refine ⟨_, _, rfl, fun i hi => ⟨w.heap.size, rfl, ?_⟩⟩
  have hi : i < 2 := hi
  rcases (by omega : i = 0 ∨ i = 1) with rfl | rfl
  · exact cell_of_rowAt (rowAt_alloc_at w _ 9 _ rfl) 0
  · exact cell_of_rowAt (rowAt_alloc_at w _ 9 _ rfl) 1
theorem strs_at3 (w : World) (t u v : List UInt8) (n : Nat) (hn : n = w.heap.size) : StrsAt (w.alloc (.cells #[.string (stx t), .string (stx u), .string (stx v)] 9)) (.slice (some ⟨n, 0, none⟩) 3 3) [t, u, v] := by
  subst hn
  refine ⟨_, _, rfl, fun i hi => ⟨w.heap.size, rfl, ?_⟩⟩
  have hi : i < 3 := hi
  rcases (by omega : i = 0 ∨ i = 1 ∨ i = 2) with rfl | rfl | rfl
  · exact cell_of_rowAt (rowAt_alloc_at w _ 9 _ rfl) 0
  · exact cell_of_rowAt (rowAt_alloc_at w _ 9 _ rfl) 1
  · exact cell_of_rowAt (rowAt_alloc_at w _ 9 _ rfl) 2

set_option maxRecDepth 100000 in
set_option maxHeartbeats 400000 in
theorem nitemText_any (x : Itm) (w : World) : Calls Tryd.prog 78 #[.agg (cellsI x)] w fun e w' => e = .returned (.string (stx (itemT x))) ∧ Below w.heap.size w w' := by
  have b0 : Below w.heap.size w (w.alloc (.cells (cellsI x) 43)) := (Below.refl _ _).alloc (Nat.le_refl _) _
  have r0 : rowAt (w.alloc (.cells (cellsI x) 43)) w.heap.size = some (cellsI x) := rowAt_alloc_at _ _ _ _ rfl
  have HE := Lib.hid (noctets_any)
  have HC1 := fun y : Past (w.alloc (.cells (cellsI x) 43)) => conv_at x.b y.w w.heap.size 1 32 _ (rowAt_past y.h r0) (extract_I1 x)
  have HC2 := fun y : Past (w.alloc (.cells (cellsI x) 43)) => conv_at x.s y.w w.heap.size 33 32 _ (rowAt_past y.h r0) (extract_I2 x)
  have c0 := fun y : Past (w.alloc (.cells (cellsI x) 43)) => (cell_of_rowAt (rowAt_past y.h r0) 0).trans (get_I0 x)
  have c1 := fun y : Past (w.alloc (.cells (cellsI x) 43)) => (cell_of_rowAt (rowAt_past y.h r0) 65).trans (get_I65 x)
  have HS : Hid (stx (eightL x.n) ++ stx x.b.l ++ stx x.s.l ++ stx (eightL x.e) = stx (itemT x)) := Lib.hid (by rw [stx_append, stx_append, stx_append]; rfl)
  have z1 : (stx (eightL x.n)).size = 8 := by rw [stx_size, eightL_len]
  have z2 : (stx x.b.l).size = 32 := by rw [stx_size, x.b.h]
  have z3 : (stx x.s.l).size = 32 := by rw [stx_size, x.s.h]
  have z4 : (stx (eightL x.e)).size = 8 := by rw [stx_size, eightL_len]
  have H1 := Lib.hid (fun w => HE.out x.n w)
  have H2 := Lib.hid (fun w => HE.out x.e w)
  clear HE
  generalize stx (itemT x) = R at *
  generalize stx (eightL x.n) = A at *
  generalize stx (eightL x.e) = D at *
  generalize stx x.b.l = B at *
  generalize stx x.s.l = C at *
  have y1 : (A ++ B).size = 40 := by rw [ByteArray.size_append, z1, z2]
  have y2 : (A ++ B ++ C).size = 72 := by rw [ByteArray.size_append, y1, z3]
  obtain ⟨n, hn⟩ : ∃ n, x.n = n := ⟨_, rfl⟩
  obtain ⟨m, hm⟩ : ∃ m, x.e = m := ⟨_, rfl⟩
  rw [hn] at c0 H1
  rw [hm] at c1 H2
  clear hn hm
  go_enter Tryd.func78, Tryd.ntmps78
  go_wp2_with fail
  generalize w.alloc (.cells (cellsI x) 43) = W at *
  refine wp_region_past (by kernel_rfl) (by kernel_rfl) ?_
  iterate 3 go_big_quiet_step (fail)
  go_big_quiet_step (exact Past.call (H1.out _))
  iterate 11 go_big_quiet_step (fail)
  go_big_quiet_step (exact Past.call (H2.out _))
  iterate 2 go_big_quiet_step (fail)
  refine wpQuiet_nil ?_
  rintro _ ⟨⟨wn, hn⟩, rfl⟩
  go_wp2_with fail
  rw [HS.out]
  go_ret
  exact ⟨rfl, below_past b0 hn b0.size⟩
set_option maxRecDepth 100000 in
set_option maxHeartbeats 400000 in
theorem r15Text_any (x : Itm) (w : World) : Calls Tryd.prog 52 #[.agg (cellsI x)] w fun e w' => e = .returned (.string (stx (itemT x))) ∧ Below w.heap.size w w' := by
  have b0 : Below w.heap.size w (w.alloc (.cells (cellsI x) 33)) := (Below.refl _ _).alloc (Nat.le_refl _) _
  have r0 : rowAt (w.alloc (.cells (cellsI x) 33)) w.heap.size = some (cellsI x) := rowAt_alloc_at _ _ _ _ rfl
  have HE := Lib.hid (r15Eight_any)
  have HC1 := fun y : Past (w.alloc (.cells (cellsI x) 33)) => conv_at x.b y.w w.heap.size 1 32 _ (rowAt_past y.h r0) (extract_I1 x)
  have HC2 := fun y : Past (w.alloc (.cells (cellsI x) 33)) => conv_at x.s y.w w.heap.size 33 32 _ (rowAt_past y.h r0) (extract_I2 x)
  have c0 := fun y : Past (w.alloc (.cells (cellsI x) 33)) => (cell_of_rowAt (rowAt_past y.h r0) 0).trans (get_I0 x)
  have c1 := fun y : Past (w.alloc (.cells (cellsI x) 33)) => (cell_of_rowAt (rowAt_past y.h r0) 65).trans (get_I65 x)
  have HS : Hid (stx (eightL x.n) ++ stx x.b.l ++ stx x.s.l ++ stx (eightL x.e) = stx (itemT x)) := Lib.hid (by rw [stx_append, stx_append, stx_append]; rfl)
  have z1 : (stx (eightL x.n)).size = 8 := by rw [stx_size, eightL_len]
  have z2 : (stx x.b.l).size = 32 := by rw [stx_size, x.b.h]
  have z3 : (stx x.s.l).size = 32 := by rw [stx_size, x.s.h]
  have z4 : (stx (eightL x.e)).size = 8 := by rw [stx_size, eightL_len]
  have H1 := Lib.hid (fun w => HE.out x.n w)
  have H2 := Lib.hid (fun w => HE.out x.e w)
  clear HE
  generalize stx (itemT x) = R at *
  generalize stx (eightL x.n) = A at *
  generalize stx (eightL x.e) = D at *
  generalize stx x.b.l = B at *
  generalize stx x.s.l = C at *
  have y1 : (A ++ B).size = 40 := by rw [ByteArray.size_append, z1, z2]
  have y2 : (A ++ B ++ C).size = 72 := by rw [ByteArray.size_append, y1, z3]
  obtain ⟨n, hn⟩ : ∃ n, x.n = n := ⟨_, rfl⟩
  obtain ⟨m, hm⟩ : ∃ m, x.e = m := ⟨_, rfl⟩
  rw [hn] at c0 H1
  rw [hm] at c1 H2
  clear hn hm
  go_enter Tryd.func52, Tryd.ntmps52
  go_wp2_with fail
  generalize w.alloc (.cells (cellsI x) 33) = W at *
  refine wp_region_past (by kernel_rfl) (by kernel_rfl) ?_
  iterate 2 go_big_quiet_step (fail)
  go_big_quiet_step (exact Past.call (H1.out _))
  iterate 10 go_big_quiet_step (fail)
  go_big_quiet_step (exact Past.call (H2.out _))
  iterate 2 go_big_quiet_step (fail)
  refine wpQuiet_nil ?_
  rintro _ ⟨⟨wn, hn⟩, rfl⟩
  go_wp2_with fail
  rw [HS.out]
  go_ret
  exact ⟨rfl, below_past b0 hn b0.size⟩

set_option maxRecDepth 100000 in
set_option maxHeartbeats 1000000 in
theorem nleafTexts_any (x : Lf) (w : World) : Calls Tryd.prog 55 #[.agg (cellsF x)] w fun e w' => ∃ g, e = .returned (.slice (some ⟨g, 0, none⟩) 3 3) ∧ StrsAt w' (.slice (some ⟨g, 0, none⟩) 3 3) (leafT x) ∧ Below w.heap.size w w' := by
  have b0 : Below w.heap.size w (w.alloc (.cells (cellsF x) 37)) := (Below.refl _ _).alloc (Nat.le_refl _) _
  have r0 : rowAt (w.alloc (.cells (cellsF x) 37)) w.heap.size = some (cellsF x) := rowAt_alloc_at _ _ _ _ rfl
  have HC1 := fun y : Past (w.alloc (.cells (cellsF x) 37)) => conv_at x.a y.w w.heap.size 0 32 _ (rowAt_past y.h r0) (extract_F0 x)
  have HC2 := fun y : Past (w.alloc (.cells (cellsF x) 37)) => conv_at x.v y.w w.heap.size 32 32 _ (rowAt_past y.h r0) (extract_F1 x)
  have c1 := fun y : Past (w.alloc (.cells (cellsF x) 37)) => (cell_of_rowAt (rowAt_past y.h r0) 64).trans (get_F64 x)
  have H1 := Lib.hid (fun w => noctets_any x.e w)
  obtain ⟨m, hm⟩ : ∃ m, x.e = m := ⟨_, rfl⟩
  unfold leafT
  rw [hm] at c1 H1 ⊢
  generalize eightL m = D at *
  generalize x.a.l = A at *
  generalize x.v.l = V at *
  clear hm
  go_enter Tryd.func55, Tryd.ntmps55
  go_wp2_with fail
  generalize w.alloc (.cells (cellsF x) 37) = W at *
  refine wp_region_wildL [] 9 (by kernel_rfl) (by kernel_rfl) ?_
  simp only [List.take_succ_cons, List.take_zero]
  iterate 8 (refine wildL_val (by decide) (by kernel_rfl) rfl ?_; intro K hK; go_big_quiet_op; go_big_quiet_on)
  refine wildL_call (by decide) (by kernel_rfl) (by kernel_rfl) ?_
  apply Exists.intro
  refine And.intro ?_ ?_
  focus
    intro x K hK
    go_big_quiet_op
    go_big_quiet_call (exact call_back (H1.out _))
    rfl
  refine wildL_nil ?_
  simp only [List.drop_succ_cons, List.drop_zero]
  rintro ⟨z, hz⟩
  change wpList _ _ _ _ _ z
  have b1 := below_past b0 hz b0.size
  go_wp2_with fail
  go_ret
  exact ⟨_, rfl, strs_at3 z A V D _ rfl, b1.alloc b1.size _⟩

set_option maxRecDepth 100000 in
set_option maxHeartbeats 1000000 in
theorem ninnerTexts_any (x y : Itm) (w : World) : Calls Tryd.prog 64 #[.agg (cellsN x y)] w fun e w' => ∃ g, e = .returned (.slice (some ⟨g, 0, none⟩) 2 2) ∧ StrsAt w' (.slice (some ⟨g, 0, none⟩) 2 2) (innerT x y) ∧ Below w.heap.size w w' := by
  have b0 : Below w.heap.size w (w.alloc (.cells (cellsN x y) 45)) := (Below.refl _ _).alloc (Nat.le_refl _) _
  have r0 : rowAt (w.alloc (.cells (cellsN x y) 45)) w.heap.size = some (cellsN x y) := rowAt_alloc_at _ _ _ _ rfl
  have fa := fun z : Past (w.alloc (.cells (cellsN x y) 45)) => rowAt_past z.h r0
  have H1 := Lib.hid (fun w => nitemText_any x w)
  have H2 := Lib.hid (fun w => nitemText_any y w)
  unfold innerT
  generalize itemT x = A at *
  generalize itemT y = B at *
  go_enter Tryd.func64, Tryd.ntmps64
  go_wp2_with fail
  generalize w.alloc (.cells (cellsN x y) 45) = W at *
  refine wp_region_wildL [] 6 (by kernel_rfl) (by kernel_rfl) ?_
  simp only [List.take_succ_cons, List.take_zero]
  iterate 2 (refine wildL_val (by decide) (by kernel_rfl) rfl ?_; intro K hK; go_big_quiet_op; go_big_quiet_on)
  refine wildL_call (by decide) (by kernel_rfl) (by kernel_rfl) ?_
  apply Exists.intro
  refine And.intro ?_ ?_
  focus
    intro x K hK
    go_big_quiet_op
    go_big_quiet_call (exact call_back (H1.out _))
    rfl
  iterate 2 (refine wildL_val (by decide) (by kernel_rfl) rfl ?_; intro K hK; go_big_quiet_op; go_big_quiet_on)
  refine wildL_call (by decide) (by kernel_rfl) (by kernel_rfl) ?_
  apply Exists.intro
  refine And.intro ?_ ?_
  focus
    intro x K hK
    go_big_quiet_op
    go_big_quiet_call (exact call_back (H2.out _))
    rfl
  refine wildL_nil ?_
  simp only [List.drop_succ_cons, List.drop_zero]
  rintro ⟨z, hz⟩
  change wpList _ _ _ _ _ z
  have b1 := below_past b0 hz b0.size
  go_wp2_with fail
  go_ret
  exact ⟨_, rfl, strs_at2 z A B _ rfl, b1.alloc b1.size _⟩
end Go.Proofs.YtnffmgpnhlcakaaDoor
namespace Go.Proofs.YtnffmgpnhlcakaaDoor
open Go Go.RowKit

set_option maxRecDepth 100000 in
set_option maxHeartbeats 1000000 in
theorem r15LeafBytes_any (x : Lf) (w : World) : Calls Tryd.prog 20 #[.agg (cellsF x)] w fun e w' => e = .returned (.string (stx (leafB x))) ∧ Below w.heap.size w w' := by
  have b0 : Below w.heap.size w (w.alloc (.cells (cellsF x) 31)) := (Below.refl _ _).alloc (Nat.le_refl _) _
  have r0 : rowAt (w.alloc (.cells (cellsF x) 31)) w.heap.size = some (cellsF x) := rowAt_alloc_at _ _ _ _ rfl
  have HC1 := fun y : Past (w.alloc (.cells (cellsF x) 31)) => conv_at x.a y.w w.heap.size 0 32 _ (rowAt_past y.h r0) (extract_F0 x)
  have HC2 := fun y : Past (w.alloc (.cells (cellsF x) 31)) => conv_at x.v y.w w.heap.size 32 32 _ (rowAt_past y.h r0) (extract_F1 x)
  have c1 := fun y : Past (w.alloc (.cells (cellsF x) 31)) => (cell_of_rowAt (rowAt_past y.h r0) 64).trans (get_F64 x)
  have H1 := Lib.hid (fun w => r15Eight_any x.e w)
  have HS := leafT_short x
  unfold leafB
  have HB := Lib.hid (fun v w (h : StrsAt w v (leafT x)) => r3Bytes_any 16 v (leafT x) w h (by simp [leafT]) HS)
  rw [show (((16 : UInt8).toNat : Nat) : Int) = 16 from rfl] at HB
  clear HS
  unfold leafT at *
  obtain ⟨m, hm⟩ : ∃ m, x.e = m := ⟨_, rfl⟩
  rw [hm] at c1 H1 HB ⊢
  generalize eightL m = D at *
  generalize x.a.l = A at *
  generalize x.v.l = V at *
  clear hm
  generalize stx (joinL 16 [A, V, D]) = R at *
  go_enter Tryd.func20, Tryd.ntmps20
  go_wp2_with fail
  generalize w.alloc (.cells (cellsF x) 31) = W at *
  refine wp_region_wildL [] 9 (by kernel_rfl) (by kernel_rfl) ?_
  simp only [List.take_succ_cons, List.take_zero]
  iterate 8 (refine wildL_val (by decide) (by kernel_rfl) rfl ?_; intro K hK; go_big_quiet_op; go_big_quiet_on)
  refine wildL_call (by decide) (by kernel_rfl) (by kernel_rfl) ?_
  apply Exists.intro
  refine And.intro ?_ ?_
  focus
    intro x K hK
    go_big_quiet_op
    go_big_quiet_call (exact call_back (H1.out _))
    rfl
  refine wildL_nil ?_
  simp only [List.drop_succ_cons, List.drop_zero]
  rintro ⟨z, hz⟩
  change wpList _ _ _ _ _ z
  have b1 := below_past b0 hz b0.size
  have hst := strs_at3 z A V D _ rfl
  have b2 := b1.alloc b1.size (.cells #[.string (stx A), .string (stx V), .string (stx D)] 9)
  have HB2 := Lib.hid (HB.out _ _ hst)
  clear hst b1 HB
  go_wp2_with fail
  refine HB2.out.mono ?_
  rintro e w3 ⟨rfl, b3⟩
  have b4 := below_past b2 b3 b2.size
  clear b2 b3 HB2
  go_wp2_with fail
  go_ret
  exact ⟨rfl, b4⟩

set_option maxRecDepth 100000 in
set_option maxHeartbeats 1000000 in
theorem r15InnerBytes_any (x y : Itm) (w : World) : Calls Tryd.prog 21 #[.agg (cellsI x), .agg (cellsI y)] w fun e w' => e = .returned (.string (stx (innerB x y))) ∧ Below w.heap.size w w' := by
  have b0 : Below w.heap.size w ((w.alloc (.cells (cellsI x) 33)).alloc (.cells (cellsI y) 33)) := ((Below.refl _ _).alloc (Nat.le_refl _) _).alloc (by simp only [World.size_alloc]; omega) _
  have r0 : rowAt ((w.alloc (.cells (cellsI x) 33)).alloc (.cells (cellsI y) 33)) w.heap.size = some (cellsI x) := (rowAt_alloc_past _ _ _ (by simp only [World.size_alloc]; omega)).trans (rowAt_alloc_at _ _ _ _ rfl)
  have r1 : rowAt ((w.alloc (.cells (cellsI x) 33)).alloc (.cells (cellsI y) 33)) (w.heap.size + 1) = some (cellsI y) := rowAt_alloc_at _ _ _ _ (by simp only [World.size_alloc])
  have fa := fun z : Past ((w.alloc (.cells (cellsI x) 33)).alloc (.cells (cellsI y) 33)) => rowAt_past z.h r0
  have fb := fun z : Past ((w.alloc (.cells (cellsI x) 33)).alloc (.cells (cellsI y) 33)) => rowAt_past z.h r1
  have H1 := Lib.hid (fun w => r15Text_any x w)
  have H2 := Lib.hid (fun w => r15Text_any y w)
  have HS := innerT_short x y
  unfold innerB
  have HB := Lib.hid (fun v w (h : StrsAt w v (innerT x y)) => r3Bytes_any 17 v (innerT x y) w h (by simp [innerT]) HS)
  rw [show (((17 : UInt8).toNat : Nat) : Int) = 17 from rfl] at HB
  clear HS
  unfold innerT at *
  generalize itemT x = A at *
  generalize itemT y = B at *
  generalize stx (joinL 17 [A, B]) = R at *
  go_enter Tryd.func21, Tryd.ntmps21
  go_wp2_with fail
  generalize (w.alloc (.cells (cellsI x) 33)).alloc (.cells (cellsI y) 33) = W at *
  refine wp_region_wildL [] 4 (by kernel_rfl) (by kernel_rfl) ?_
  simp only [List.take_succ_cons, List.take_zero]
  iterate 1 (refine wildL_val (by decide) (by kernel_rfl) rfl ?_; intro K hK; go_big_quiet_op; go_big_quiet_on)
  refine wildL_call (by decide) (by kernel_rfl) (by kernel_rfl) ?_
  apply Exists.intro
  refine And.intro ?_ ?_
  focus
    intro x K hK
    go_big_quiet_op
    go_big_quiet_call (exact call_back (H1.out _))
    rfl
  iterate 1 (refine wildL_val (by decide) (by kernel_rfl) rfl ?_; intro K hK; go_big_quiet_op; go_big_quiet_on)
  refine wildL_call (by decide) (by kernel_rfl) (by kernel_rfl) ?_
  apply Exists.intro
  refine And.intro ?_ ?_
  focus
    intro x K hK
    go_big_quiet_op
    go_big_quiet_call (exact call_back (H2.out _))
    rfl
  refine wildL_nil ?_
  simp only [List.drop_succ_cons, List.drop_zero]
  rintro ⟨z, hz⟩
  change wpList _ _ _ _ _ z
  have b1 := below_past b0 hz b0.size
  have hst := strs_at2 z A B _ rfl
  have b2 := b1.alloc b1.size (.cells #[.string (stx A), .string (stx B)] 9)
  have HB2 := Lib.hid (HB.out _ _ hst)
  clear hst b1 HB
  go_wp2_with fail
  refine HB2.out.mono ?_
  rintro e w3 ⟨rfl, b3⟩
  have b4 := below_past b2 b3 b2.size
  clear b2 b3 HB2
  go_wp2_with fail
  go_ret
  exact ⟨rfl, b4⟩
end Go.Proofs.YtnffmgpnhlcakaaDoor
