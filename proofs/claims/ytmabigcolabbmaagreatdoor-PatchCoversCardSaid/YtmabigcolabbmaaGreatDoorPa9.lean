/- Texts that the next ones stand on: NodeA, Toks, NodeB, Patch3, Patch4, ForkMath. -/
import Derived.Test.YtmabigcolabbmaaGreatDoorPa8
import Derived.Laws.Build
namespace Go.Proofs.YtmabigcolabbmaaGreatDoor
open Go Go.RowKit

/-- The last k bytes of a number, the highest first. -/
def digs (m k : Nat) : List UInt8 := (List.range k).map fun j => UInt8.ofNat (m / 256 ^ (k - 1 - j))
theorem digs_len (m k : Nat) : (digs m k).length = k := by simp [digs]
theorem digs_cons (m k : Nat) : digs m (k + 1) = UInt8.ofNat (m / 256 ^ k) :: digs m k := by
  unfold digs
  rw [List.range_succ_eq_map, List.map_cons, List.map_map]
  congr 1
  apply List.map_congr_left
  intro j _
  show UInt8.ofNat (m / 256 ^ (k + 1 - 1 - (j + 1))) = _
  congr 3
  omega
/-- A number as one that isn't below 0. -/
def unat (n : Int) : Nat := (n % 18446744073709551616).toNat
def eightL (n : Int) : List UInt8 := digs (unat n) 8
theorem eightL_len (n : Int) : (eightL n).length = 8 := digs_len _ _
theorem unat_int (n : Int) : IntKind.u64.wrap n = (unat n : Int) := by
  show n % 2 ^ IntKind.u64.bits = _
  rw [show (2 : Int) ^ IntKind.u64.bits = 18446744073709551616 from rfl]
  unfold unat
  omega
theorem unat_lt (n : Int) : unat n < 18446744073709551616 := by unfold unat; omega
theorem unat_inj {n m : Int} (hn0 : -9223372036854775808 ≤ n) (hn1 : n ≤ 9223372036854775807) (hm0 : -9223372036854775808 ≤ m) (hm1 : m ≤ 9223372036854775807) (h : unat n = unat m) : n = m := by
  unfold unat at h
  omega
theorem digs_inj : ∀ {k m n : Nat}, m < 256 ^ k → n < 256 ^ k → digs m k = digs n k → m = n
  | 0, m, n, hm, hn, _ => by simp at hm hn; omega
  | k + 1, m, n, hm, hn, h => by
    rw [digs_cons, digs_cons] at h
    injection h with h1 h2
    have hm' : m / 256 ^ k < 256 := by rw [Nat.div_lt_iff_lt_mul (Nat.pow_pos (by decide))]; rw [Nat.pow_succ] at hm; omega
    have hn' : n / 256 ^ k < 256 := by rw [Nat.div_lt_iff_lt_mul (Nat.pow_pos (by decide))]; rw [Nat.pow_succ] at hn; omega
    have h3 : m / 256 ^ k = n / 256 ^ k := by
      have := congrArg UInt8.toNat h1
      rw [UInt8.toNat_ofNat', UInt8.toNat_ofNat'] at this
      generalize m / 256 ^ k = p at *
      generalize n / 256 ^ k = q at *
      omega
    have low : ∀ x : Nat, digs x k = digs (x % 256 ^ k) k := by
      intro x
      unfold digs
      apply List.map_congr_left
      intro j hj
      have hj : j < k := by simpa using hj
      have e : 256 ^ k = 256 ^ (k - 1 - j) * (256 * 256 ^ j) := by
        rw [← Nat.pow_succ', ← Nat.pow_add]
        congr 1
        omega
      have e2 : x % 256 ^ k / 256 ^ (k - 1 - j) = x / 256 ^ (k - 1 - j) % (256 * 256 ^ j) := by
        rw [e, Nat.mod_mul_right_div_self]
      rw [e2]
      apply UInt8.toNat_inj.1
      rw [UInt8.toNat_ofNat', UInt8.toNat_ofNat', Nat.mod_mul_right_mod]
    rw [low m, low n] at h2
    have h4 := digs_inj (Nat.mod_lt m (Nat.pow_pos (by decide))) (Nat.mod_lt n (Nat.pow_pos (by decide))) h2
    rw [← Nat.div_add_mod m (256 ^ k), ← Nat.div_add_mod n (256 ^ k), h3, h4]
theorem eightL_inj {n m : Int} (hn : (Lit.int .i64 n).wf = true) (hm : (Lit.int .i64 m).wf = true) (h : eightL n = eightL m) : n = m := by
  have h1 := wf_i64 hn
  have h2 := wf_i64 hm
  exact unat_inj h1.1 h1.2 h2.1 h2.2 (digs_inj (by have := unat_lt n; omega) (by have := unat_lt m; omega) h)

/-- The row of a number's bytes, as many laid as i. -/
def octCell (m i j : Nat) : Nat := if j < i then m / 256 ^ (7 - j) % 256 else 0
def octRow (m i : Nat) : Array Value := ((List.range 8).map fun j => Value.int .u8 (octCell m i j)).toArray
theorem octRow_zero (m : Nat) : octRow m 0 = #[.int .u8 0, .int .u8 0, .int .u8 0, .int .u8 0, .int .u8 0, .int .u8 0, .int .u8 0, .int .u8 0] := by
  simp [octRow, octCell, List.range_succ]
theorem octRow_put (m i : Nat) (hi : i < 8) : (octRow m i).setIfInBounds i (.int .u8 ((m / 256 ^ (7 - i) % 256 : Nat) : Int)) = octRow m (i + 1) := by
  apply Array.ext_getElem?
  intro j
  rw [Array.getElem?_setIfInBounds]
  unfold octRow
  by_cases e : i = j
  · subst e
    simp [hi, octCell]
  · rw [if_neg e]
    by_cases h1 : j < 8
    · have h3 : (j < i + 1) ↔ (j < i) := by omega
      simp [h1, octCell, h3]
    · simp [h1]
theorem octRow_get (m i j : Nat) (h : j < 8) : (octRow m i)[j]? = some (.int .u8 (octCell m i j)) := by simp [octRow, h]

set_option maxRecDepth 100000 in
theorem noctets_any (n : Int) (w : World) : Calls Tryz.prog 104 #[.int .i64 n] w fun e w' => e = .returned (.string (stx (eightL n))) ∧ Below w.heap.size w w' := by
  obtain ⟨m, hm⟩ : ∃ m, unat n = m := ⟨_, rfl⟩
  have hw := unat_int n
  rw [eightL, hm]
  rw [hm] at hw
  have hm1 := unat_lt n
  rw [hm] at hm1
  obtain ⟨x, hx⟩ : ∃ x : Int, (m : Int) = x := ⟨_, rfl⟩
  have HX := Lib.hid hx
  have hx0 : 0 ≤ x := by omega
  have hx1 : x < 18446744073709551616 := by omega
  rw [hx] at hw
  have HZ := Lib.hid (octRow_zero m)
  clear hm hm1 hx
  go_enter Tryz.func104, Tryz.ntmps104
  go_wp2_with fail
  rw [← HZ.out]
  have r0 : rowAt (w.alloc (.cells (octRow m 0) 164)) w.heap.size = some (octRow m 0) := rowAt_alloc_at _ _ _ _ rfl
  have b0 : Below w.heap.size w (w.alloc (.cells (octRow m 0) 164)) := (Below.refl _ _).alloc (Nat.le_refl _) _
  generalize hg : w.heap.size = g at *
  generalize w.alloc (.cells (octRow m 0) 164) = W at *
  go_loopw [4, 5] (fun _ t wr => ∃ i : Nat, i ≤ 8 ∧ t = .int .i64 i ∧ rowAt wr g = some (octRow m i) ∧ Below g w wr) (fun _ t _ => (8 - intOf t).toNat)
  case atStart => exact ⟨0, by omega, rfl, r0, b0⟩
  case round =>
    obtain ⟨i, hi, rfl, k0, b5⟩ := hrel
    clear r0 b0
    by_cases hlt : i < 8
    · have hlt' : (i : Int) < 8 := by omega
      obtain ⟨d, hd⟩ : ∃ d, 56 - 8 * i = d := ⟨_, rfl⟩
      have hsub : (56 : Int) - 8 * (i : Int) = (d : Int) := by omega
      have hd9 : (d : Int) ≤ 56 := by omega
      have c1 := (cell_of_rowAt k0 i).trans (octRow_get m i i hlt)
      have f1 := frozen_of_rowAt k0 i
      go_wp2_with fail
      have hval : x / 2 ^ d % 256 = ((m / 256 ^ (7 - i) % 256 : Nat) : Int) := by
        rw [← HX.out, div_pow_cast, show d = 8 * (7 - i) by omega, Nat.pow_mul]
        rfl
      rw [hval]
      refine ⟨⟨i + 1, hlt, by go_num, ?_, Below.setCell b5 (Nat.le_refl g) _⟩, by simp [intOf]; omega⟩
      rw [← octRow_put m i hlt]
      exact rowAt_setCell_same k0 i _
    · obtain rfl : i = 8 := by omega
      have hconv : (convert 105 9 (.slice (some ⟨g, 0, none⟩) 8 8)).run Tryz.prog wr = .ok (.string (stx (digs m 8))) wr := by
        have q := run_convert_bytes_back (P := Tryz.prog) wr 105 9 5 ⟨g, 0, none⟩ 8 (digs m 8) Tryz.underlying105 Tryz.underlying5 Tryz.underlying9 ?_
        · rw [digs_len] at q
          exact q
        intro j hj
        rw [digs_len] at hj
        rw [show (⟨g, 0, none⟩ : Addr).add j = ⟨g, j, none⟩ by simp [Addr.add]; exact fun e => e.symm, cell_of_rowAt k0, octRow_get m 8 j hj, octCell, if_pos hj]
        simp [digs]
      go_wp2_with fail
      go_ret
      exact ⟨rfl, by rw [hg]; exact b5⟩
end Go.Proofs.YtmabigcolabbmaaGreatDoor
namespace Go.Proofs.YtmabigcolabbmaaGreatDoor
open Go Go.RowKit

theorem row_ret_item {fn : Func} {p : Tmp} (h : fn.results = #[.cell p 68]) {R : Ending → World → Prop} {a : Act} {w : World} {b : Nat} {l : Itm} (hp : a.tmps.getD p undef = .pointer (some ⟨b, 0, none⟩)) (hd : a.defers = [])
    (hr : rowAt w b = some (cellsI l)) (hR : R (.returned (.agg (cellsI l))) w) : bodyPost Tryz.prog fn R .ret a w :=
  bodyPost_ret (results_row h a.tmps w b _ _ hp hr Tryz.underlying68 rfl (by rw [size_cellsI]; kernel_rfl)) hd hR
theorem row_ret_ritem {fn : Func} {p : Tmp} (h : fn.results = #[.cell p 53]) {R : Ending → World → Prop} {a : Act} {w : World} {b : Nat} {l : Itm} (hp : a.tmps.getD p undef = .pointer (some ⟨b, 0, none⟩)) (hd : a.defers = [])
    (hr : rowAt w b = some (cellsI l)) (hR : R (.returned (.agg (cellsI l))) w) : bodyPost Tryz.prog fn R .ret a w :=
  bodyPost_ret (results_row h a.tmps w b _ _ hp hr Tryz.underlying53 rfl (by rw [size_cellsI]; kernel_rfl)) hd hR
theorem row_ret_leaf {fn : Func} {p : Tmp} (h : fn.results = #[.cell p 51]) {R : Ending → World → Prop} {a : Act} {w : World} {b : Nat} {l : Lf} (hp : a.tmps.getD p undef = .pointer (some ⟨b, 0, none⟩)) (hd : a.defers = [])
    (hr : rowAt w b = some (cellsF l)) (hR : R (.returned (.agg (cellsF l))) w) : bodyPost Tryz.prog fn R .ret a w :=
  bodyPost_ret (results_row h a.tmps w b _ _ hp hr Tryz.underlying51 rfl (by rw [size_cellsF]; kernel_rfl)) hd hR
theorem row_ret_rleaf {fn : Func} {p : Tmp} (h : fn.results = #[.cell p 55]) {R : Ending → World → Prop} {a : Act} {w : World} {b : Nat} {l : Lf} (hp : a.tmps.getD p undef = .pointer (some ⟨b, 0, none⟩)) (hd : a.defers = [])
    (hr : rowAt w b = some (cellsF l)) (hR : R (.returned (.agg (cellsF l))) w) : bodyPost Tryz.prog fn R .ret a w :=
  bodyPost_ret (results_row h a.tmps w b _ _ hp hr Tryz.underlying55 rfl (by rw [size_cellsF]; kernel_rfl)) hd hR

set_option maxRecDepth 100000 in
theorem r15Eight_any (n : Int) (w : World) : Calls Tryz.prog 85 #[.int .i64 n] w fun e w' => e = .returned (.string (stx (eightL n))) ∧ Below w.heap.size w w' := by
  obtain ⟨m, hm⟩ : ∃ m, unat n = m := ⟨_, rfl⟩
  have hw := unat_int n
  rw [eightL, hm]
  rw [hm] at hw
  have hm1 := unat_lt n
  rw [hm] at hm1
  obtain ⟨x, hx⟩ : ∃ x : Int, (m : Int) = x := ⟨_, rfl⟩
  have hx1 : x < 18446744073709551616 := by omega
  have hx0 : 0 ≤ x := by omega
  have HX0 : Hid (((m / 256 ^ 0 : Nat) : Int) = x) := Lib.hid (by rw [Nat.pow_zero, Nat.div_one]; exact hx)
  rw [hx] at hw
  clear hm hm1 hx
  go_enter Tryz.func85, Tryz.ntmps85
  go_wp2_with fail
  go_loopw [3, 4, 5] (fun s x t wr => ∃ (i : Nat) (y : Int), i ≤ 8 ∧ 0 ≤ y ∧ y < 18446744073709551616 ∧ t = .int .i64 i ∧ x = .int .u64 y ∧ Hid (((m / 256 ^ i : Nat) : Int) = y) ∧ Hid (s = .string (stx (digs m i))) ∧ Below w.heap.size w wr) (fun _ _ t _ => (8 - intOf t).toNat)
  case atStart => exact ⟨0, x, by omega, hx0, hx1, rfl, rfl, HX0, Lib.hid rfl, Below.refl _ _⟩
  case round =>
    obtain ⟨i, y, hi, hy0, hy1, rfl, rfl, HY, HX, b0⟩ := hrel
    have hx := HX.out
    subst hx
    clear HX0 hx0 hx1 hw
    by_cases hlt : i < 8
    · have hlt' : (i : Int) < 8 := by omega
      have hc := r2conv_one wr (y.toNat % 256) (Nat.mod_lt _ (by decide))
      rw [show ((y.toNat % 256 : Nat) : Int) = y % 256 by omega] at hc
      have b1 : Below w.heap.size w (wr.alloc (.cells #[.int .u8 (y % 256)] 5)) := b0.alloc b0.size _
      have z1 : (stx (digs m i)).size = i := by rw [stx_size, digs_len]
      have z2 : (txt [UInt8.ofNat (y.toNat % 256)]).size = 1 := rfl
      have HS : Hid (txt [UInt8.ofNat (y.toNat % 256)] ++ stx (digs m i) = stx (digs m (i + 1))) := Lib.hid (by
        rw [show txt [UInt8.ofNat (y.toNat % 256)] = stx [UInt8.ofNat (y.toNat % 256)] from rfl, stx_append, digs_cons, List.singleton_append]
        have e : m / 256 ^ i = y.toNat := by have := HY.out; omega
        rw [e]
        congr 2
        apply UInt8.toNat_inj.1
        simp)
      have HY2 : Hid (((m / 256 ^ (i + 1) : Nat) : Int) = y / 256) := Lib.hid (by
        rw [Nat.pow_succ, ← Nat.div_div_eq_div_mul, ← HY.out]
        rfl)
      have hyq : y / 256 < 18446744073709551616 := by omega
      have hyq0 : 0 ≤ y / 256 := by omega
      have hym : y % 256 % 256 = y % 256 := by omega
      generalize txt [UInt8.ofNat (y.toNat % 256)] = D at *
      generalize stx (digs m i) = D2 at *
      clear HY HX b0
      go_wp2_with fail
      rw [HS.out]
      exact ⟨⟨i + 1, y / 256, hlt, hyq0, hyq, by go_num, rfl, HY2, Lib.hid rfl, b1⟩, by simp [intOf]; omega⟩
    · obtain rfl : i = 8 := by omega
      go_wp2_with fail
      go_ret
      exact ⟨rfl, b0⟩

/-- What is summed. -/
def leafT (x : Lf) : List (List UInt8) := [x.a.l, x.v.l, eightL x.e]
def itemT (x : Itm) : List UInt8 := eightL x.n ++ x.b.l ++ x.s.l ++ eightL x.e
def innerT (x y : Itm) : List (List UInt8) := [itemT x, itemT y]
def leafB (x : Lf) : List UInt8 := joinL 16 (leafT x)
def innerB (x y : Itm) : List UInt8 := joinL 17 (innerT x y)
theorem itemT_len (x : Itm) : (itemT x).length = 80 := by
  simp [itemT, eightL_len, x.b.h, x.s.h]
theorem leafT_short (x : Lf) : ∀ t ∈ leafT x, t.length ≤ 100 := by
  intro t ht
  simp only [leafT, List.mem_cons, List.not_mem_nil, or_false] at ht
  rcases ht with rfl | rfl | rfl
  · rw [x.a.h]; decide
  · rw [x.v.h]; decide
  · rw [eightL_len]; decide
theorem innerT_short (x y : Itm) : ∀ t ∈ innerT x y, t.length ≤ 100 := by
  intro t ht
  simp only [innerT, List.mem_cons, List.not_mem_nil, or_false] at ht
  rcases ht with rfl | rfl <;> rw [itemT_len] <;> decide
end Go.Proofs.YtmabigcolabbmaaGreatDoor
namespace Go.Proofs.YtmabigcolabbmaaGreatDoor
open Go Go.RowKit

theorem conv_at (a : Lab) (w : World) (b o cap : Nat) (c : Array Value) (h : rowAt w b = some c) (hx : c.extract o (o + 32) = cellsL a) : (convert 105 9 (.slice (some ⟨b, o, none⟩) 32 cap)).run Tryz.prog w = .ok (.string (stx a.l)) w := by
  have hl := a.h
  have q := run_convert_bytes_back (P := Tryz.prog) w 105 9 5 ⟨b, o, none⟩ cap a.l Tryz.underlying105 Tryz.underlying5 Tryz.underlying9 ?_
  · rw [hl] at q
    exact q
  intro j hj
  rw [show (⟨b, o, none⟩ : Addr).add j = ⟨b, o + j, none⟩ by simp [Addr.add], cell_of_rowAt h]
  have e := congrArg (fun x : Array Value => x[j]?) hx
  simp only [Array.getElem?_extract] at e
  have hz : (cellsL a)[j]? = some (.int .u8 (a.l[j].toNat : Int)) := by
    simp only [cellsL, List.getElem?_toArray]
    rw [List.getElem?_map, List.getElem?_eq_getElem hj]
    rfl
  rw [hz] at e
  split at e
  · exact e
  · cases e
theorem strs_at2 (w : World) (t u : List UInt8) (n : Nat) (hn : n = w.heap.size) : StrsAt (w.alloc (.cells #[.string (stx t), .string (stx u)] 9)) (.slice (some ⟨n, 0, none⟩) 2 2) [t, u] := by
  subst hn
  refine ⟨_, _, rfl, fun i hi => ⟨w.heap.size, rfl, ?_⟩⟩
  have hi : i < 2 := hi
  rcases (by omega : i = 0 ∨ i = 1) with rfl | rfl
  · exact cell_of_rowAt (rowAt_alloc_at w _ 9 _ rfl) 0
  · exact cell_of_rowAt (rowAt_alloc_at w _ 9 _ rfl) 1
theorem strs_at3 (w : World) (t u v : List UInt8) (n : Nat) (hn : n = w.heap.size) : StrsAt (w.alloc (.cells #[.string (stx t), .string (stx u), .string (stx v)] 9)) (.slice (some ⟨n, 0, none⟩) 3 3) [t, u, v] := by
  subst hn
  refine ⟨_, _, rfl, fun i hi => ⟨w.heap.size, rfl, ?_⟩⟩
  have hi : i < 3 := hi
  rcases (by omega : i = 0 ∨ i = 1 ∨ i = 2) with rfl | rfl | rfl
  · exact cell_of_rowAt (rowAt_alloc_at w _ 9 _ rfl) 0
  · exact cell_of_rowAt (rowAt_alloc_at w _ 9 _ rfl) 1
  · exact cell_of_rowAt (rowAt_alloc_at w _ 9 _ rfl) 2

set_option maxRecDepth 100000 in
set_option maxHeartbeats 400000 in
theorem nitemText_any (x : Itm) (w : World) : Calls Tryz.prog 109 #[.agg (cellsI x)] w fun e w' => e = .returned (.string (stx (itemT x))) ∧ Below w.heap.size w w' := by
  have b0 : Below w.heap.size w (w.alloc (.cells (cellsI x) 68)) := (Below.refl _ _).alloc (Nat.le_refl _) _
  have r0 : rowAt (w.alloc (.cells (cellsI x) 68)) w.heap.size = some (cellsI x) := rowAt_alloc_at _ _ _ _ rfl
  have HE := Lib.hid (noctets_any)
  have HC1 := fun y : Past (w.alloc (.cells (cellsI x) 68)) => conv_at x.b y.w w.heap.size 1 32 _ (rowAt_past y.h r0) (extract_I1 x)
  have HC2 := fun y : Past (w.alloc (.cells (cellsI x) 68)) => conv_at x.s y.w w.heap.size 33 32 _ (rowAt_past y.h r0) (extract_I2 x)
  have c0 := fun y : Past (w.alloc (.cells (cellsI x) 68)) => (cell_of_rowAt (rowAt_past y.h r0) 0).trans (get_I0 x)
  have c1 := fun y : Past (w.alloc (.cells (cellsI x) 68)) => (cell_of_rowAt (rowAt_past y.h r0) 65).trans (get_I65 x)
  have HS : Hid (stx (eightL x.n) ++ stx x.b.l ++ stx x.s.l ++ stx (eightL x.e) = stx (itemT x)) := Lib.hid (by rw [stx_append, stx_append, stx_append]; rfl)
  have z1 : (stx (eightL x.n)).size = 8 := by rw [stx_size, eightL_len]
  have z2 : (stx x.b.l).size = 32 := by rw [stx_size, x.b.h]
  have z3 : (stx x.s.l).size = 32 := by rw [stx_size, x.s.h]
  have z4 : (stx (eightL x.e)).size = 8 := by rw [stx_size, eightL_len]
  have H1 := Lib.hid (fun w => HE.out x.n w)
  have H2 := Lib.hid (fun w => HE.out x.e w)
  clear HE
  generalize stx (itemT x) = R at *
  generalize stx (eightL x.n) = A at *
  generalize stx (eightL x.e) = D at *
  generalize stx x.b.l = B at *
  generalize stx x.s.l = C at *
  have y1 : (A ++ B).size = 40 := by rw [ByteArray.size_append, z1, z2]
  have y2 : (A ++ B ++ C).size = 72 := by rw [ByteArray.size_append, y1, z3]
  obtain ⟨n, hn⟩ : ∃ n, x.n = n := ⟨_, rfl⟩
  obtain ⟨m, hm⟩ : ∃ m, x.e = m := ⟨_, rfl⟩
  rw [hn] at c0 H1
  rw [hm] at c1 H2
  clear hn hm
  go_enter Tryz.func109, Tryz.ntmps109
  go_wp2_with fail
  generalize w.alloc (.cells (cellsI x) 68) = W at *
  refine wp_region_past (by kernel_rfl) (by kernel_rfl) ?_
  iterate 3 go_big_quiet_step (fail)
  go_big_quiet_step (exact Past.call (H1.out _))
  iterate 11 go_big_quiet_step (fail)
  go_big_quiet_step (exact Past.call (H2.out _))
  iterate 2 go_big_quiet_step (fail)
  refine wpQuiet_nil ?_
  rintro _ ⟨⟨wn, hn⟩, rfl⟩
  go_wp2_with fail
  rw [HS.out]
  go_ret
  exact ⟨rfl, below_past b0 hn b0.size⟩
set_option maxRecDepth 100000 in
set_option maxHeartbeats 400000 in
theorem r15Text_any (x : Itm) (w : World) : Calls Tryz.prog 111 #[.agg (cellsI x)] w fun e w' => e = .returned (.string (stx (itemT x))) ∧ Below w.heap.size w w' := by
  have b0 : Below w.heap.size w (w.alloc (.cells (cellsI x) 53)) := (Below.refl _ _).alloc (Nat.le_refl _) _
  have r0 : rowAt (w.alloc (.cells (cellsI x) 53)) w.heap.size = some (cellsI x) := rowAt_alloc_at _ _ _ _ rfl
  have HE := Lib.hid (r15Eight_any)
  have HC1 := fun y : Past (w.alloc (.cells (cellsI x) 53)) => conv_at x.b y.w w.heap.size 1 32 _ (rowAt_past y.h r0) (extract_I1 x)
  have HC2 := fun y : Past (w.alloc (.cells (cellsI x) 53)) => conv_at x.s y.w w.heap.size 33 32 _ (rowAt_past y.h r0) (extract_I2 x)
  have c0 := fun y : Past (w.alloc (.cells (cellsI x) 53)) => (cell_of_rowAt (rowAt_past y.h r0) 0).trans (get_I0 x)
  have c1 := fun y : Past (w.alloc (.cells (cellsI x) 53)) => (cell_of_rowAt (rowAt_past y.h r0) 65).trans (get_I65 x)
  have HS : Hid (stx (eightL x.n) ++ stx x.b.l ++ stx x.s.l ++ stx (eightL x.e) = stx (itemT x)) := Lib.hid (by rw [stx_append, stx_append, stx_append]; rfl)
  have z1 : (stx (eightL x.n)).size = 8 := by rw [stx_size, eightL_len]
  have z2 : (stx x.b.l).size = 32 := by rw [stx_size, x.b.h]
  have z3 : (stx x.s.l).size = 32 := by rw [stx_size, x.s.h]
  have z4 : (stx (eightL x.e)).size = 8 := by rw [stx_size, eightL_len]
  have H1 := Lib.hid (fun w => HE.out x.n w)
  have H2 := Lib.hid (fun w => HE.out x.e w)
  clear HE
  generalize stx (itemT x) = R at *
  generalize stx (eightL x.n) = A at *
  generalize stx (eightL x.e) = D at *
  generalize stx x.b.l = B at *
  generalize stx x.s.l = C at *
  have y1 : (A ++ B).size = 40 := by rw [ByteArray.size_append, z1, z2]
  have y2 : (A ++ B ++ C).size = 72 := by rw [ByteArray.size_append, y1, z3]
  obtain ⟨n, hn⟩ : ∃ n, x.n = n := ⟨_, rfl⟩
  obtain ⟨m, hm⟩ : ∃ m, x.e = m := ⟨_, rfl⟩
  rw [hn] at c0 H1
  rw [hm] at c1 H2
  clear hn hm
  go_enter Tryz.func111, Tryz.ntmps111
  go_wp2_with fail
  generalize w.alloc (.cells (cellsI x) 53) = W at *
  refine wp_region_past (by kernel_rfl) (by kernel_rfl) ?_
  iterate 2 go_big_quiet_step (fail)
  go_big_quiet_step (exact Past.call (H1.out _))
  iterate 10 go_big_quiet_step (fail)
  go_big_quiet_step (exact Past.call (H2.out _))
  iterate 2 go_big_quiet_step (fail)
  refine wpQuiet_nil ?_
  rintro _ ⟨⟨wn, hn⟩, rfl⟩
  go_wp2_with fail
  rw [HS.out]
  go_ret
  exact ⟨rfl, below_past b0 hn b0.size⟩

set_option maxRecDepth 100000 in
set_option maxHeartbeats 1000000 in
theorem nleafTexts_any (x : Lf) (w : World) : Calls Tryz.prog 82 #[.agg (cellsF x)] w fun e w' => ∃ g, e = .returned (.slice (some ⟨g, 0, none⟩) 3 3) ∧ StrsAt w' (.slice (some ⟨g, 0, none⟩) 3 3) (leafT x) ∧ Below w.heap.size w w' := by
  have b0 : Below w.heap.size w (w.alloc (.cells (cellsF x) 51)) := (Below.refl _ _).alloc (Nat.le_refl _) _
  have r0 : rowAt (w.alloc (.cells (cellsF x) 51)) w.heap.size = some (cellsF x) := rowAt_alloc_at _ _ _ _ rfl
  have HC1 := fun y : Past (w.alloc (.cells (cellsF x) 51)) => conv_at x.a y.w w.heap.size 0 32 _ (rowAt_past y.h r0) (extract_F0 x)
  have HC2 := fun y : Past (w.alloc (.cells (cellsF x) 51)) => conv_at x.v y.w w.heap.size 32 32 _ (rowAt_past y.h r0) (extract_F1 x)
  have c1 := fun y : Past (w.alloc (.cells (cellsF x) 51)) => (cell_of_rowAt (rowAt_past y.h r0) 64).trans (get_F64 x)
  have H1 := Lib.hid (fun w => noctets_any x.e w)
  obtain ⟨m, hm⟩ : ∃ m, x.e = m := ⟨_, rfl⟩
  unfold leafT
  rw [hm] at c1 H1 ⊢
  generalize eightL m = D at *
  generalize x.a.l = A at *
  generalize x.v.l = V at *
  clear hm
  go_enter Tryz.func82, Tryz.ntmps82
  go_wp2_with fail
  generalize w.alloc (.cells (cellsF x) 51) = W at *
  refine wp_region_wildL [] 9 (by kernel_rfl) (by kernel_rfl) ?_
  simp only [List.take_succ_cons, List.take_zero]
  iterate 8 (refine wildL_val (by decide) (by kernel_rfl) rfl ?_; intro K hK; go_big_quiet_op; go_big_quiet_on)
  refine wildL_call (by decide) (by kernel_rfl) (by kernel_rfl) ?_
  apply Exists.intro
  refine And.intro ?_ ?_
  focus
    intro x K hK
    go_big_quiet_op
    go_big_quiet_call (exact call_back (H1.out _))
    rfl
  refine wildL_nil ?_
  simp only [List.drop_succ_cons, List.drop_zero]
  rintro ⟨z, hz⟩
  change wpList _ _ _ _ _ z
  have b1 := below_past b0 hz b0.size
  go_wp2_with fail
  go_ret
  exact ⟨_, rfl, strs_at3 z A V D _ rfl, b1.alloc b1.size _⟩

set_option maxRecDepth 100000 in
set_option maxHeartbeats 1000000 in
theorem ninnerTexts_any (x y : Itm) (w : World) : Calls Tryz.prog 91 #[.agg (cellsN x y)] w fun e w' => ∃ g, e = .returned (.slice (some ⟨g, 0, none⟩) 2 2) ∧ StrsAt w' (.slice (some ⟨g, 0, none⟩) 2 2) (innerT x y) ∧ Below w.heap.size w w' := by
  have b0 : Below w.heap.size w (w.alloc (.cells (cellsN x y) 77)) := (Below.refl _ _).alloc (Nat.le_refl _) _
  have r0 : rowAt (w.alloc (.cells (cellsN x y) 77)) w.heap.size = some (cellsN x y) := rowAt_alloc_at _ _ _ _ rfl
  have fa := fun z : Past (w.alloc (.cells (cellsN x y) 77)) => rowAt_past z.h r0
  have H1 := Lib.hid (fun w => nitemText_any x w)
  have H2 := Lib.hid (fun w => nitemText_any y w)
  unfold innerT
  generalize itemT x = A at *
  generalize itemT y = B at *
  go_enter Tryz.func91, Tryz.ntmps91
  go_wp2_with fail
  generalize w.alloc (.cells (cellsN x y) 77) = W at *
  refine wp_region_wildL [] 6 (by kernel_rfl) (by kernel_rfl) ?_
  simp only [List.take_succ_cons, List.take_zero]
  iterate 2 (refine wildL_val (by decide) (by kernel_rfl) rfl ?_; intro K hK; go_big_quiet_op; go_big_quiet_on)
  refine wildL_call (by decide) (by kernel_rfl) (by kernel_rfl) ?_
  apply Exists.intro
  refine And.intro ?_ ?_
  focus
    intro x K hK
    go_big_quiet_op
    go_big_quiet_call (exact call_back (H1.out _))
    rfl
  iterate 2 (refine wildL_val (by decide) (by kernel_rfl) rfl ?_; intro K hK; go_big_quiet_op; go_big_quiet_on)
  refine wildL_call (by decide) (by kernel_rfl) (by kernel_rfl) ?_
  apply Exists.intro
  refine And.intro ?_ ?_
  focus
    intro x K hK
    go_big_quiet_op
    go_big_quiet_call (exact call_back (H2.out _))
    rfl
  refine wildL_nil ?_
  simp only [List.drop_succ_cons, List.drop_zero]
  rintro ⟨z, hz⟩
  change wpList _ _ _ _ _ z
  have b1 := below_past b0 hz b0.size
  go_wp2_with fail
  go_ret
  exact ⟨_, rfl, strs_at2 z A B _ rfl, b1.alloc b1.size _⟩
end Go.Proofs.YtmabigcolabbmaaGreatDoor
namespace Go.Proofs.YtmabigcolabbmaaGreatDoor
open Go Go.RowKit

set_option maxRecDepth 100000 in
set_option maxHeartbeats 1000000 in
theorem r15LeafBytes_any (x : Lf) (w : World) : Calls Tryz.prog 51 #[.agg (cellsF x)] w fun e w' => e = .returned (.string (stx (leafB x))) ∧ Below w.heap.size w w' := by
  have b0 : Below w.heap.size w (w.alloc (.cells (cellsF x) 55)) := (Below.refl _ _).alloc (Nat.le_refl _) _
  have r0 : rowAt (w.alloc (.cells (cellsF x) 55)) w.heap.size = some (cellsF x) := rowAt_alloc_at _ _ _ _ rfl
  have HC1 := fun y : Past (w.alloc (.cells (cellsF x) 55)) => conv_at x.a y.w w.heap.size 0 32 _ (rowAt_past y.h r0) (extract_F0 x)
  have HC2 := fun y : Past (w.alloc (.cells (cellsF x) 55)) => conv_at x.v y.w w.heap.size 32 32 _ (rowAt_past y.h r0) (extract_F1 x)
  have c1 := fun y : Past (w.alloc (.cells (cellsF x) 55)) => (cell_of_rowAt (rowAt_past y.h r0) 64).trans (get_F64 x)
  have H1 := Lib.hid (fun w => r15Eight_any x.e w)
  have HS := leafT_short x
  unfold leafB
  have HB := Lib.hid (fun v w (h : StrsAt w v (leafT x)) => r3Bytes_any 16 v (leafT x) w h (by simp [leafT]) HS)
  rw [show (((16 : UInt8).toNat : Nat) : Int) = 16 from rfl] at HB
  clear HS
  unfold leafT at *
  obtain ⟨m, hm⟩ : ∃ m, x.e = m := ⟨_, rfl⟩
  rw [hm] at c1 H1 HB ⊢
  generalize eightL m = D at *
  generalize x.a.l = A at *
  generalize x.v.l = V at *
  clear hm
  generalize stx (joinL 16 [A, V, D]) = R at *
  go_enter Tryz.func51, Tryz.ntmps51
  go_wp2_with fail
  generalize w.alloc (.cells (cellsF x) 55) = W at *
  refine wp_region_wildL [] 9 (by kernel_rfl) (by kernel_rfl) ?_
  simp only [List.take_succ_cons, List.take_zero]
  iterate 8 (refine wildL_val (by decide) (by kernel_rfl) rfl ?_; intro K hK; go_big_quiet_op; go_big_quiet_on)
  refine wildL_call (by decide) (by kernel_rfl) (by kernel_rfl) ?_
  apply Exists.intro
  refine And.intro ?_ ?_
  focus
    intro x K hK
    go_big_quiet_op
    go_big_quiet_call (exact call_back (H1.out _))
    rfl
  refine wildL_nil ?_
  simp only [List.drop_succ_cons, List.drop_zero]
  rintro ⟨z, hz⟩
  change wpList _ _ _ _ _ z
  have b1 := below_past b0 hz b0.size
  have hst := strs_at3 z A V D _ rfl
  have b2 := b1.alloc b1.size (.cells #[.string (stx A), .string (stx V), .string (stx D)] 9)
  have HB2 := Lib.hid (HB.out _ _ hst)
  clear hst b1 HB
  go_wp2_with fail
  refine HB2.out.mono ?_
  rintro e w3 ⟨rfl, b3⟩
  have b4 := below_past b2 b3 b2.size
  clear b2 b3 HB2
  go_wp2_with fail
  go_ret
  exact ⟨rfl, b4⟩

set_option maxRecDepth 100000 in
set_option maxHeartbeats 1000000 in
theorem r15InnerBytes_any (x y : Itm) (w : World) : Calls Tryz.prog 94 #[.agg (cellsI x), .agg (cellsI y)] w fun e w' => e = .returned (.string (stx (innerB x y))) ∧ Below w.heap.size w w' := by
  have b0 : Below w.heap.size w ((w.alloc (.cells (cellsI x) 53)).alloc (.cells (cellsI y) 53)) := ((Below.refl _ _).alloc (Nat.le_refl _) _).alloc (by simp only [World.size_alloc]; omega) _
  have r0 : rowAt ((w.alloc (.cells (cellsI x) 53)).alloc (.cells (cellsI y) 53)) w.heap.size = some (cellsI x) := (rowAt_alloc_past _ _ _ (by simp only [World.size_alloc]; omega)).trans (rowAt_alloc_at _ _ _ _ rfl)
  have r1 : rowAt ((w.alloc (.cells (cellsI x) 53)).alloc (.cells (cellsI y) 53)) (w.heap.size + 1) = some (cellsI y) := rowAt_alloc_at _ _ _ _ (by simp only [World.size_alloc])
  have fa := fun z : Past ((w.alloc (.cells (cellsI x) 53)).alloc (.cells (cellsI y) 53)) => rowAt_past z.h r0
  have fb := fun z : Past ((w.alloc (.cells (cellsI x) 53)).alloc (.cells (cellsI y) 53)) => rowAt_past z.h r1
  have H1 := Lib.hid (fun w => r15Text_any x w)
  have H2 := Lib.hid (fun w => r15Text_any y w)
  have HS := innerT_short x y
  unfold innerB
  have HB := Lib.hid (fun v w (h : StrsAt w v (innerT x y)) => r3Bytes_any 17 v (innerT x y) w h (by simp [innerT]) HS)
  rw [show (((17 : UInt8).toNat : Nat) : Int) = 17 from rfl] at HB
  clear HS
  unfold innerT at *
  generalize itemT x = A at *
  generalize itemT y = B at *
  generalize stx (joinL 17 [A, B]) = R at *
  go_enter Tryz.func94, Tryz.ntmps94
  go_wp2_with fail
  generalize (w.alloc (.cells (cellsI x) 53)).alloc (.cells (cellsI y) 53) = W at *
  refine wp_region_wildL [] 4 (by kernel_rfl) (by kernel_rfl) ?_
  simp only [List.take_succ_cons, List.take_zero]
  iterate 1 (refine wildL_val (by decide) (by kernel_rfl) rfl ?_; intro K hK; go_big_quiet_op; go_big_quiet_on)
  refine wildL_call (by decide) (by kernel_rfl) (by kernel_rfl) ?_
  apply Exists.intro
  refine And.intro ?_ ?_
  focus
    intro x K hK
    go_big_quiet_op
    go_big_quiet_call (exact call_back (H1.out _))
    rfl
  iterate 1 (refine wildL_val (by decide) (by kernel_rfl) rfl ?_; intro K hK; go_big_quiet_op; go_big_quiet_on)
  refine wildL_call (by decide) (by kernel_rfl) (by kernel_rfl) ?_
  apply Exists.intro
  refine And.intro ?_ ?_
  focus
    intro x K hK
    go_big_quiet_op
    go_big_quiet_call (exact call_back (H2.out _))
    rfl
  refine wildL_nil ?_
  simp only [List.drop_succ_cons, List.drop_zero]
  rintro ⟨z, hz⟩
  change wpList _ _ _ _ _ z
  have b1 := below_past b0 hz b0.size
  have hst := strs_at2 z A B _ rfl
  have b2 := b1.alloc b1.size (.cells #[.string (stx A), .string (stx B)] 9)
  have HB2 := Lib.hid (HB.out _ _ hst)
  clear hst b1 HB
  go_wp2_with fail
  refine HB2.out.mono ?_
  rintro e w3 ⟨rfl, b3⟩
  have b4 := below_past b2 b3 b2.size
  clear b2 b3 HB2
  go_wp2_with fail
  go_ret
  exact ⟨rfl, b4⟩
end Go.Proofs.YtmabigcolabbmaaGreatDoor
namespace Go.Proofs.YtmabigcolabbmaaGreatDoor
open Go Go.RowKit

section
variable {P : Program} {ops : Array Oper}

/-- A world in which all lies that operation j may rely on: what lay there at first, and what those made that it waits for. -/
def Good (W : World) (tok : List Nat) (τ : Nat → Value × World) (p : Nat → Bool) (w : World) : Prop :=
  Below W.heap.size W w ∧ ∀ i ∈ tok, p i = true → Below (τ i).2.heap.size (τ i).2 w
theorem Good.step {W : World} {tok : List Nat} {τ : Nat → Value × World} {p : Nat → Bool} {w w' : World} (h : Good W tok τ p w) (k : Below w.heap.size w w') : Good W tok τ p w' :=
  ⟨Below.step h.1 k, fun i hi hp => Below.step (h.2 i hi hp) k⟩
def depB (ops : Array Oper) (j i : Nat) : Bool := (waitsT ops i).contains j
/-- Whatever function it enters, it is none of those that run at the start. -/
def Late (P : Program) (o : Oper) (a : Act) (w : World) : Prop := ∀ f args w', (execOp a.eval o).run P w = .ok (.enter f args) w' → P.inits.idxOf? f = none
def YieldsT (P : Program) (ops : Array Oper) (G : World → Prop) (o : Oper) (v : Value) (a : Act) : Prop :=
  (Region.wanted o (yielded ops a.tmps) = true ∧ ∀ w, G w → o.quietAt P a (fun w' => ∃ y : Past w, w' = y.w) w v ∧ Late P o a w) ∨
  (Region.wanted o (yielded ops a.tmps) = false ∧ v = undef)
theorem YieldsT.put {G : World → Prop} {o : Oper} {v u : Value} {a : Act} {dst : Option Tmp} (hs : ∀ cs b, o.op ≠ .select cs b) (hd : ∀ d, dst = some d → d ∉ o.looksAt ops) :
    YieldsT P ops G o v (a.put dst u) ↔ YieldsT P ops G o v a := by
  unfold YieldsT Oper.quietAt Late
  rw [execOp_put o hs a dst u hd, wanted_put o a dst u hd]
/-- Two contracts on one call speak of one end. -/
theorem calls_agree {f : FuncId} {args : Array Value} {w : World} {v u : Value} {R R' : World → Prop}
    (h : Calls P f args w fun e w' => e = .returned v ∧ R w') (h' : Calls P f args w fun e w' => e = .returned u ∧ R' w') (hi : P.inits.idxOf? f = none) : v = u := by
  obtain ⟨n, v1, w1, e1, r1⟩ := Calls.done (R := fun x _ => x = v) (h.mono fun e w' ⟨he, _⟩ => by subst he; rfl) hi
  obtain ⟨m, v2, w2, e2, r2⟩ := Calls.done (R := fun x _ => x = u) (h'.mono fun e w' ⟨he, _⟩ => by subst he; rfl) hi
  have a := runN_ended e1 m
  have b := runN_ended e2 n
  rw [Nat.add_comm, a] at b
  injection b with ho hw
  injection ho with hv
  exact r1.symm.trans (hv.trans r2)
/-- At one world two values are one. -/
theorem quiet_two {o : Oper} {a : Act} {w : World} {v u : Value} (h1 : o.quietAt P a (fun w' => ∃ y : Past w, w' = y.w) w v) (h2 : o.quietAt P a (fun w' => ∃ y : Past w, w' = y.w) w u) (hl : Late P o a w) : v = u := by
  unfold Late at hl
  unfold Oper.quietAt at h1 h2
  generalize (execOp a.eval o).run P w = r at *
  cases r with
  | ok n w' =>
    cases n <;> simp only [Oper.quietUpon] at h1 h2
    case value x => exact h1.2.symm.trans h2.2
    case skip => exact h1.2.trans h2.2.symm
    case enter f args => exact calls_agree h1.2 h2.2 (hl f args w' rfl)
  | halt x w' => simp only [Oper.quietUpon] at h1
/-- A call of a function by its name. -/
def calleeOf : Op → Option FuncId
  | .call c => match c.callee with
    | .value (.func k) => some k
    | _ => none
  | _ => none
theorem late_static {o : Oper} {k : FuncId} (ho : calleeOf o.op = some k) (hi : P.inits.idxOf? k = none) (hf : (P.funcs[k]?).map (fun fn => fn.name == "runtime.NumGoroutine" || fn.body.isNone) = some false) (a : Act) (w : World) : Late P o a w := by
  intro f args w' he
  unfold calleeOf at ho
  split at ho
  · rename_i c hc
    split at ho
    · rename_i k' hk
      obtain rfl := Option.some.inj ho
      unfold execOp at he
      rw [hc] at he
      obtain ⟨fn, hfn, hff⟩ := Option.map_eq_some_iff.1 hf
      rw [Bool.or_eq_false_iff] at hff
      simp only [hk, resolve, invoke, Sem.run_bind, Act.eval, Deferred.ofValue, Sem.run_pure, Result.andThen_ok, callFunc, show (program : Sem Program).run P w = .ok P w from rfl, hfn, hff.1, hff.2, Bool.false_eq_true, if_false] at he
      injection he with he _
      injection he with he _
      rw [← he]
      exact hi
    · cases ho
  · cases ho
theorem late_none {o : Oper} (h : noCall o.op = true) (a : Act) (w : World) : Late P o a w := fun _ _ _ he => (no_enter h _ _ _ _ _ he).elim

/-- The walk in the order of the text. -/
def wpTok (P : Program) (ops : Array Oper) (W : World) (tok : List Nat) (R : Nat → Value → World → Prop) (Qh : Act → World → Prop) (τ : Nat → Value × World) : List Nat → Act → Prop
  | [], a => ∀ w, Good W tok τ (fun _ => true) w → Qh a w
  | j :: is, a => ∃ o, ops[j]? = some o ∧
      ((j ∉ tok ∧ ∃ v, YieldsT P ops (Good W tok τ (depB ops j)) o v a ∧ wpTok P ops W tok R Qh τ is (a.put o.dst v)) ∨
       (j ∈ tok ∧ Region.wanted o (yielded ops a.tmps) = true ∧ (∀ w, Good W tok τ (depB ops j) w → wildAt P o a w (R j)) ∧ wpTok P ops W tok R Qh τ is (a.put o.dst (τ j).1)))

theorem wpTok_take {W : World} {tok : List Nat} {R : Nat → Value → World → Prop} {Qh : Act → World → Prop} {τ : Nat → Value × World} (hsel : ∀ (j : Nat) (o : Oper) cs b, ops[j]? = some o → o.op ≠ .select cs b) {j : Nat} {oj : Oper} (hj : ops[j]? = some oj) :
    ∀ (is : List Nat) (a : Act), is.Pairwise (· < ·) → j ∈ is → (∀ k ∈ is, k < j → apartAt ops k j) → wpTok P ops W tok R Qh τ is a →
      (j ∉ tok ∧ ∃ v, YieldsT P ops (Good W tok τ (depB ops j)) oj v a ∧ wpTok P ops W tok R Qh τ (is.erase j) (a.put oj.dst v)) ∨
      (j ∈ tok ∧ Region.wanted oj (yielded ops a.tmps) = true ∧ (∀ w, Good W tok τ (depB ops j) w → wildAt P oj a w (R j)) ∧ wpTok P ops W tok R Qh τ (is.erase j) (a.put oj.dst (τ j).1))
  | i :: is, a, hp, hm, hap, ⟨o, h1, h2⟩ => by
    by_cases hij : i = j
    · subst hij
      obtain rfl : o = oj := Option.some.inj (h1.symm.trans hj)
      simpa using h2
    · have hm' : j ∈ is := by
        rcases List.mem_cons.1 hm with e | e
        · exact absurd e.symm hij
        · exact e
      have hlt : i < j := (List.pairwise_cons.1 hp).1 j hm'
      obtain ⟨s1, s2, s3⟩ := Oper.apart_spec (hap i (by simp) hlt o oj h1 hj)
      rw [List.erase_cons_tail (by simpa using hij)]
      have hcont : ∀ u : Value, (∀ vi, wpTok P ops W tok R Qh τ (is.erase j) ((a.put o.dst vi).put oj.dst u) → wpTok P ops W tok R Qh τ (is.erase j) ((a.put oj.dst u).put o.dst vi)) := fun u vi h => by
        rw [← Act.put_comm a vi u s2]
        exact h
      have hback : ∀ vi, wpTok P ops W tok R Qh τ is (a.put o.dst vi) →
          ((∀ u, wpTok P ops W tok R Qh τ (is.erase j) ((a.put o.dst vi).put oj.dst u) → wpTok P ops W tok R Qh τ (i :: is.erase j) (a.put oj.dst u))) →
          (j ∉ tok ∧ ∃ v, YieldsT P ops (Good W tok τ (depB ops j)) oj v a ∧ wpTok P ops W tok R Qh τ (i :: is.erase j) (a.put oj.dst v)) ∨
          (j ∈ tok ∧ Region.wanted oj (yielded ops a.tmps) = true ∧ (∀ w, Good W tok τ (depB ops j) w → wildAt P oj a w (R j)) ∧ wpTok P ops W tok R Qh τ (i :: is.erase j) (a.put oj.dst (τ j).1)) := fun vi h hc => by
        rcases wpTok_take hsel hj is (a.put o.dst vi) (List.pairwise_cons.1 hp).2 hm' (fun k hk => hap k (List.mem_cons_of_mem _ hk)) h with ⟨hn, u, y1, y2⟩ | ⟨hn, y1, y2, y3⟩
        · exact .inl ⟨hn, u, (YieldsT.put (hsel j oj · · hj) s1).1 y1, hc u y2⟩
        · refine .inr ⟨hn, ?_, fun w hw => (wildAt_put (ops := ops) (hsel j oj · · hj) s1).1 (y2 w hw), hc _ y3⟩
          rwa [wanted_put oj a o.dst vi s1] at y1
      rcases h2 with ⟨hni, v, h2, h3⟩ | ⟨hni, h2, h3, h4⟩
      · exact hback v h3 fun u hu => ⟨o, h1, .inl ⟨hni, v, (YieldsT.put (hsel i o · · h1) s3).2 h2, hcont u v hu⟩⟩
      · exact hback _ h4 fun u hu => ⟨o, h1, .inr ⟨hni, by rw [wanted_put o a oj.dst u s3]; exact h2, fun w hw => (wildAt_put (ops := ops) (hsel i o · · h1) s3).2 (h3 w hw), hcont u _ hu⟩⟩
  | [], _, _, hm, _, _ => by cases hm

theorem wpAny_tok {n : Nat} {W : World} {tok : List Nat} {R : Nat → Value → World → Prop} {Q' : Exit → Act → World → Prop} {Qh : Act → World → Prop} (F : WildOk ops [] n) (htok : ∀ i ∈ tok, i < n) (hT : ∀ a w, Qh a w → wpList P ops Q' (ops.toList.drop n) a w) :
    ∀ (f : Nat) (listed : Array Bool) (a : Act) (w : World) (τ : Nat → Value × World), Closed ops listed → listed.size = ops.size → (left listed n).length = f → (∀ t, n ≤ t → t < ops.size → listed.getD t true = false) →
      Good W tok τ (fun i => listed.getD i false) w → (∀ i ∈ tok, Below W.heap.size W (τ i).2 ∧ R i (τ i).1 (τ i).2) →
      (∀ τ' : Nat → Value × World, (∀ i ∈ tok, Below W.heap.size W (τ' i).2 ∧ R i (τ' i).1 (τ' i).2) → (∀ i ∈ tok, listed.getD i false = true → τ' i = τ i) → wpTok P ops W tok R Qh τ' (left listed n) a) →
      wpAny P .any ops Q' (f + (ops.size - n)) listed a w
  | 0, listed, a, w, τ, hcl, hs, hf, ht, hg, hv, hh => by
    have hall : ∀ i, i < n → listed.getD i true = true := fun i hi => by
      cases h : listed.getD i true with
      | true => rfl
      | false =>
        have := mem_left.2 ⟨hi, h⟩
        rw [List.eq_nil_of_length_eq_zero hf] at this
        cases this
    have hle : listed = (Array.range ops.size).map fun i => decide (i < n) := listed_eq hs fun i hi => by
      by_cases him : i < n
      · simp [hall i him, him]
      · simp [ht i (by omega) hi, him]
    have hq := hh τ hv fun _ _ _ => rfl
    rw [List.eq_nil_of_length_eq_zero hf] at hq
    have hq2 := hq w ⟨hg.1, fun i hi _ => hg.2 i hi (by dsimp only; rw [getD_flip (by have := htok i hi; have := F.size; omega)]; exact hall i (htok i hi))⟩
    subst hle
    rw [Nat.zero_add]
    have hlen : (ops.toList.drop n).length = ops.size - n := by simp
    have := wpAny_of_seq (P := P) (ops := ops) (md := .any) (Q' := Q') (ops.toList.drop n) n ((Array.range ops.size).map fun i => decide (i < n)) a w (fun j => by simp) (by rw [hlen]; exact F.seq) (hT a w hq2)
    rw [hlen] at this
    exact this
  | f + 1, listed, a, w, τ, hcl, hs, hf, ht, hg, hv, hh => by
    have hne : ∃ i, i < n ∧ listed.getD i true = false := by
      cases hl : left listed n with
      | nil => rw [hl] at hf; cases hf
      | cons i r => exact ⟨i, mem_left.1 (by rw [hl]; simp)⟩
    have hready : ∃ i, i ∈ Region.ready .any ops listed := by
      have : ∀ k i, i < k → i < n → listed.getD i true = false → ∃ j, j ∈ Region.ready .any ops listed := by
        intro k
        induction k with
        | zero => intro i hi; omega
        | succ k ih =>
          intro i hik him hun
          have hsz : i < ops.size := Nat.lt_of_lt_of_le him F.size
          by_cases hd : ∀ e ∈ (ops[i]).after, Region.binds .any e = true → listed.getD e.on false = true
          · exact ⟨i, mem_ready.2 ⟨hun, ops[i], Array.getElem?_eq_getElem hsz, hd⟩⟩
          · obtain ⟨e, he⟩ := Classical.not_forall.1 hd
            obtain ⟨he1, he2⟩ := Classical.not_imp.1 he
            obtain ⟨he2, he3⟩ := Classical.not_imp.1 he2
            have hlt := F.deps i _ him (Array.getElem?_eq_getElem hsz) e he1 he2
            have hun2 : listed.getD e.on true = false := by
              rw [← getD_flip (by omega)]
              simpa using he3
            exact ih e.on (by omega) (by omega) hun2
      obtain ⟨i, him, hun⟩ := hne
      exact this (i + 1) i (by omega) him hun
    rw [show f + 1 + (ops.size - n) = (f + (ops.size - n)) + 1 by omega]
    refine ⟨(fun h0 => by obtain ⟨i, hi⟩ := hready; rw [h0] at hi; cases hi), fun i hi => ?_⟩
    obtain ⟨hun, oi, hoi, hall⟩ := mem_ready.1 hi
    have hisz : i < ops.size := (Array.getElem?_eq_some_iff.1 hoi).1
    have hsat : Sat ops listed i := fun k hk => waits_listed hi hk
    have him : i < n := by
      rcases Nat.lt_or_ge i n with h | h
      · exact h
      · obtain ⟨k, hkm, hk⟩ := hne
        have := (F.tail i k h hisz hkm).2 listed hcl hs hsat
        rw [getD_flip (by have := F.size; omega), hk] at this
        cases this
    have hap : ∀ k ∈ left listed n, k < i → apartAt ops k i := fun k hk hki => by
      obtain ⟨h1, h2⟩ := mem_left.1 hk
      rcases F.apart i k him hki with h | h
      · have := h.2 listed hcl hs hsat
        rw [getD_flip (by omega), h2] at this
        cases this
      · exact h.1
    have hun' : listed.getD i false = false := by rw [getD_flip (by omega)]; exact hun
    have hdep : ∀ k ∈ tok, depB ops i k = true → listed.getD k false = true := fun k _ hd => by
      have hd2 : i ∈ waitsT ops k := by
        unfold depB at hd
        exact List.contains_iff_mem.1 hd
      exact (waitsT_dep k i hd2).2 listed hcl hs hsat
    have hcount : (left (listed.setIfInBounds i true) n).length = f := by
      rw [left_set (by omega), List.length_erase_of_mem (mem_left.2 ⟨him, hun⟩), hf]
      rfl
    have htail : ∀ t, n ≤ t → t < ops.size → (listed.setIfInBounds i true).getD t true = false := fun t h1 h2 => by
      rw [getD_set_ne true (by omega)]
      exact ht t h1 h2
    have htake : ∀ τ' : Nat → Value × World, (∀ i ∈ tok, Below W.heap.size W (τ' i).2 ∧ R i (τ' i).1 (τ' i).2) → (∀ i ∈ tok, listed.getD i false = true → τ' i = τ i) → _ := fun τ' h1 h2 => wpTok_take F.sel hoi (left listed n) a (left_sorted _ _) (mem_left.2 ⟨him, hun⟩) hap (hh τ' h1 h2)
    have hgood : ∀ τ' : Nat → Value × World, (∀ i ∈ tok, listed.getD i false = true → τ' i = τ i) → Good W tok τ' (depB ops i) w := fun τ' h2 =>
      ⟨hg.1, fun k hk hd => by rw [h2 k hk (hdep k hk hd)]; exact hg.2 k hk (hdep k hk hd)⟩
    unfold wpOp
    simp only [hoi]
    rcases htake τ hv fun _ _ _ => rfl with ⟨hn, v, hy, _⟩ | ⟨hn, hw1, hy, _⟩
    · have hset : ∀ k ∈ tok, (listed.setIfInBounds i true).getD k false = true → listed.getD k false = true := fun k hk h => by
        have e : k ≠ i := fun e => hn (e ▸ hk)
        rwa [getD_set_ne false (Ne.symm e)] at h
      by_cases hall' : ∀ τ' : Nat → Value × World, (∀ i ∈ tok, Below W.heap.size W (τ' i).2 ∧ R i (τ' i).1 (τ' i).2) → (∀ i ∈ tok, listed.getD i false = true → τ' i = τ i) → wpTok P ops W tok R Qh τ' ((left listed n).erase i) (a.put oi.dst v)
      · have hstep : ∀ w', Below w.heap.size w w' → wpAny P .any ops Q' (f + (ops.size - n)) (listed.setIfInBounds i true) (a.put oi.dst v) w' := fun w' hw => by
          refine wpAny_tok F htok hT f _ _ w' τ (hcl.step hi) (by simpa using hs) hcount htail ?_ hv fun τ' h1 h2 => ?_
          · exact ⟨Below.step hg.1 hw, fun k hk h => Below.step (hg.2 k hk (hset k hk h)) hw⟩
          · rw [left_set (by omega)]
            refine hall' τ' h1 fun k hk h => h2 k hk ?_
            have e : k ≠ i := fun e => hn (e ▸ hk)
            rwa [getD_set_ne false (Ne.symm e)]
        rcases hy with ⟨hw1, hw2⟩ | ⟨hw1, rfl⟩
        · rw [if_pos hw1]
          exact .inl (wp_of_quietAt (hw2 w (hgood τ fun _ _ _ => rfl)).1 hstep)
        · rw [if_neg (by rw [hw1]; exact Bool.false_ne_true)]
          exact hstep w (Below.refl _ _)
      · exfalso
        obtain ⟨τ', hq⟩ := Classical.not_forall.1 hall'
        obtain ⟨h1, hq⟩ := Classical.not_imp.1 hq
        obtain ⟨h2, hq⟩ := Classical.not_imp.1 hq
        rcases htake τ' h1 h2 with ⟨_, v', hy', hrest'⟩ | ⟨hn', _⟩
        case inr => exact absurd hn' hn
        have hvv : v ≠ v' := fun e => hq (by rw [e]; exact hrest')
        rcases hy with ⟨hw1, hw2⟩ | ⟨hw1, rfl⟩
        · rcases hy' with ⟨_, hw2'⟩ | ⟨hw1', _⟩
          · exact hvv (quiet_two (hw2 w (hgood τ fun _ _ _ => rfl)).1 (hw2' w (hgood τ' h2)).1 (hw2 w (hgood τ fun _ _ _ => rfl)).2)
          · rw [hw1] at hw1'
            cases hw1'
        · rcases hy' with ⟨hw1', _⟩ | ⟨_, e⟩
          · rw [hw1] at hw1'
            cases hw1'
          · exact absurd e.symm hvv
    · rw [if_pos hw1]
      refine .inl (wp_of_wildAt (hy w (hgood τ fun _ _ _ => rfl)) fun v w' hb hr => ?_)
      refine wpAny_tok (W := W) (R := R) F htok hT f _ _ w' (fun k => if k = i then (v, w') else τ k) (hcl.step hi) (by simpa using hs) hcount htail ?_ ?_ fun τ' h1 h2 => ?_
      · refine ⟨Below.step hg.1 hb, fun k hk h => ?_⟩
        dsimp only
        by_cases e : k = i
        · rw [if_pos e]
          exact Below.refl _ _
        · rw [if_neg e]
          dsimp only at h
          rw [getD_set_ne false (Ne.symm e)] at h
          exact Below.step (hg.2 k hk h) hb
      · intro k hk
        by_cases e : k = i
        · subst e
          rw [if_pos rfl]
          exact ⟨Below.step hg.1 hb, hr⟩
        · rw [if_neg e]
          exact hv k hk
      · rw [left_set (by omega)]
        have e0 : τ' i = (v, w') := by
          have := h2 i hn (by simp [show i < listed.size by omega])
          simpa using this
        have h3 : ∀ k ∈ tok, listed.getD k false = true → τ' k = τ k := fun k hk h => by
          have e : k ≠ i := fun e => by rw [e, hun'] at h; cases h
          have := h2 k hk (by rw [getD_set_ne false (Ne.symm e)]; exact h)
          simpa [e] using this
        rcases htake τ' h1 h3 with ⟨hn', _⟩ | ⟨_, _, _, hrest⟩
        · exact absurd hn hn'
        · rw [e0] at hrest
          exact hrest

/-- The same walk, the operations that are left written out, from number i on. -/
def wpTokL (P : Program) (ops : Array Oper) (W : World) (tok : List Nat) (R : Nat → Value → World → Prop) (Qh : Act → World → Prop) (τ : Nat → Value × World) : Nat → List Oper → Act → Prop
  | _, [], a => ∀ w, Good W tok τ (fun _ => true) w → Qh a w
  | j, o :: rest, a =>
      (j ∉ tok ∧ ∃ v, YieldsT P ops (Good W tok τ (depB ops j)) o v a ∧ wpTokL P ops W tok R Qh τ (j + 1) rest (a.put o.dst v)) ∨
      (j ∈ tok ∧ Region.wanted o (yielded ops a.tmps) = true ∧ (∀ w, Good W tok τ (depB ops j) w → wildAt P o a w (R j)) ∧ wpTokL P ops W tok R Qh τ (j + 1) rest (a.put o.dst (τ j).1))
theorem wpTok_of_L {W : World} {tok : List Nat} {R : Nat → Value → World → Prop} {Qh : Act → World → Prop} {τ : Nat → Value × World} : ∀ (rest : List Oper) (i : Nat) (a : Act), (∀ j, j < rest.length → rest[j]? = ops[i + j]?) → wpTokL P ops W tok R Qh τ i rest a → wpTok P ops W tok R Qh τ (List.range' i rest.length) a
  | [], _, _, _, h => h
  | o :: rest, i, a, hr, h => by
    have h0 : ops[i]? = some o := by simpa using (hr 0 (by simp)).symm
    have hr' : ∀ j, j < rest.length → rest[j]? = ops[(i + 1) + j]? := fun j hj => by
      have := hr (j + 1) (by simpa using hj)
      simpa [Nat.add_assoc, Nat.add_comm 1 j] using this
    rw [List.length_cons, List.range'_succ]
    refine ⟨o, h0, ?_⟩
    rcases h with ⟨hn, v, h1, h2⟩ | ⟨hn, h1, h2, h3⟩
    · exact .inl ⟨hn, v, h1, wpTok_of_L rest _ _ hr' h2⟩
    · exact .inr ⟨hn, h1, h2, wpTok_of_L rest _ _ hr' h3⟩
/-- THE LAW, at a region that is written out: its first operations, then its tail. -/
theorem wp_region_tok {id : Nat} {Q : Exit → Act → World → Prop} {a : Act} {w : World} {l : List Oper} (tok : List Nat) (n : Nat) (R : Nat → Value → World → Prop) (hm : P.follows .mixedOrders = true) (hB : (wildB l.toArray [] n && tok.all fun i => decide (i < n)) = true)
    (hsat : ∀ i ∈ tok, ∃ v W', Below w.heap.size w W' ∧ R i v W')
    (h : ∀ τ : Nat → Value × World, (∀ i ∈ tok, Below w.heap.size w (τ i).2 ∧ R i (τ i).1 (τ i).2) → wpTokL P l.toArray w tok R (fun a w' => wpList P l.toArray Q (l.drop n) a w') τ 0 (l.take n) a) : (Code.region id l.toArray true).wp P Q a w := by
  rw [Bool.and_eq_true] at hB
  have F := WildOk.of_check hB.1
  have htok : ∀ i ∈ tok, i < n := fun i hi => by simpa using List.all_eq_true.1 hB.2 i hi
  have hb : Below w.heap.size w w.drew := (Below.refl _ _).drew
  have hs := F.size
  have hl : (l.take n).length = n := by rw [List.length_take]; simp at hs; omega
  obtain ⟨τ, hτ⟩ : ∃ τ : Nat → Value × World, ∀ i ∈ tok, Below w.heap.size w (τ i).2 ∧ R i (τ i).1 (τ i).2 := by
    have : ∀ i, ∃ p : Value × World, i ∈ tok → Below w.heap.size w p.2 ∧ R i p.1 p.2 := fun i => by
      by_cases hi : i ∈ tok
      · obtain ⟨v, W', h1⟩ := hsat i hi
        exact ⟨(v, W'), fun _ => h1⟩
      · exact ⟨(undef, w), fun h => absurd h hi⟩
    obtain ⟨τ, hτ⟩ := Classical.axiomOfChoice this
    exact ⟨τ, hτ⟩
  refine wp_region_any hm ?_
  have := wpAny_tok (P := P) (Q' := Q) (W := w) (tok := tok) (R := R) (Qh := fun a w' => wpList P l.toArray Q (l.drop n) a w') F htok (fun a w h => h) n (Array.replicate l.toArray.size false) a w.drew τ (fun q _ hq h _ => by rw [unlisted l q hq] at h; cases h) (by simp) (by rw [left_all l n F.size]; simp) (fun t _ h2 => unlisted l t h2)
    ⟨hb, fun i hi hp => by
      dsimp only at hp
      rw [getD_flip (by have := htok i hi; simp; simp at hs; omega), unlisted l i (by have := htok i hi; omega)] at hp
      cases hp⟩ hτ
    (fun τ' h1 _ => by
      rw [left_all l n F.size]
      have := wpTok_of_L (l.take n) 0 a (fun j hj => by
        rw [hl] at hj
        rw [List.getElem?_take, if_pos hj]
        simp) (h τ' h1)
      rw [hl, ← List.range_eq_range'] at this
      exact this)
  rw [show n + (l.toArray.size - n) = l.toArray.size by have := F.size; omega] at this
  exact this

section
variable {W : World} {tok : List Nat} {R : Nat → Value → World → Prop} {Qh : Act → World → Prop} {τ : Nat → Value × World} {i : Nat} {rest : List Oper} {a : Act} {o : Oper}
theorem tokL_nil (h : ∀ w, Good W tok τ (fun _ => true) w → Qh a w) : wpTokL P ops W tok R Qh τ i [] a := h
/-- An operation that reads what lay there at first. -/
theorem tokL_val (hn : i ∉ tok) (hw : Region.wanted o (yielded ops a.tmps) = true) (hc : noCall o.op = true)
    (h : ∀ K : Act → Prop, (∀ a, wpTokL P ops W tok R Qh τ (i + 1) rest a → K a) → o.quiet P a (fun w' => ∃ x : Past W, w' = x.w) K) : wpTokL P ops W tok R Qh τ i (o :: rest) a := by
  obtain ⟨v, h1, h2⟩ := h _ fun _ h => h
  refine .inl ⟨hn, v, .inl ⟨hw, fun w hg => ⟨?_, late_none hc _ _⟩⟩, h2⟩
  have := h1 w ⟨⟨w, hg.1⟩, rfl⟩
  unfold Oper.quietAt at this ⊢
  generalize hr : (execOp a.eval o).run P w = r at *
  cases r with
  | ok n w' =>
    cases n
    case enter f args => exact (no_enter hc _ _ _ _ _ hr).elim
    all_goals exact this
  | halt y w' => exact this
/-- An operation that reads what operation k made. -/
theorem tokL_val1 (k : Nat) {v1 : Value} {W1 : World} (e : τ k = (v1, W1)) (hk : k ∈ tok) (hd : depB ops i k = true) (hn : i ∉ tok) (hw : Region.wanted o (yielded ops a.tmps) = true) (hc : noCall o.op = true)
    (h : ∀ K : Act → Prop, (∀ a, wpTokL P ops W tok R Qh τ (i + 1) rest a → K a) → o.quiet P a (fun w' => ∃ x : Past W1, w' = x.w) K) : wpTokL P ops W tok R Qh τ i (o :: rest) a := by
  obtain ⟨v, h1, h2⟩ := h _ fun _ h => h
  refine .inl ⟨hn, v, .inl ⟨hw, fun w hg => ⟨?_, late_none hc _ _⟩⟩, h2⟩
  have hb := hg.2 k hk hd
  rw [e] at hb
  have := h1 w ⟨⟨w, hb⟩, rfl⟩
  unfold Oper.quietAt at this ⊢
  generalize hr : (execOp a.eval o).run P w = r at *
  cases r with
  | ok n w' =>
    cases n
    case enter f args => exact (no_enter hc _ _ _ _ _ hr).elim
    all_goals exact this
  | halt y w' => exact this
def startB (P : Program) (o : Oper) : Bool := match calleeOf o.op with
  | some k => (P.inits.idxOf? k).isNone && (match P.funcs[k]? with | some fn => !(fn.name == "runtime.NumGoroutine" || fn.body.isNone) | none => false)
  | none => false
theorem startB_spec (h : startB P o = true) (a : Act) (w : World) : Late P o a w := by
  unfold startB at h
  split at h
  · rename_i k hk
    rw [Bool.and_eq_true, Option.isNone_iff_eq_none] at h
    refine late_static hk h.1 ?_ a w
    cases hf : P.funcs[k]? with
    | none => rw [hf] at h; simp at h
    | some fn =>
      rw [hf] at h
      have h2 := h.2
      simp only [Bool.not_eq_true'] at h2
      rw [Option.map_some, h2]
  · cases h
/-- A call whose value is one, whatever the world. -/
theorem tokL_call (hn : i ∉ tok) (hw : Region.wanted o (yielded ops a.tmps) = true) (hl : startB P o = true)
    (hx : ∃ v, (∀ (x : Past W), Good W tok τ (depB ops i) x.w → o.quietAt P a (fun w' => ∃ y : Past x.w, w' = y.w) x.w v) ∧ wpTokL P ops W tok R Qh τ (i + 1) rest (a.put o.dst v)) : wpTokL P ops W tok R Qh τ i (o :: rest) a := by
  obtain ⟨v, h, hA⟩ := hx
  exact .inl ⟨hn, v, .inl ⟨hw, fun w hg => ⟨h ⟨w, hg.1⟩ hg, startB_spec hl _ _⟩⟩, hA⟩
/-- An operation that makes something. -/
theorem tokL_tok {v1 : Value} {W1 : World} (e : τ i = (v1, W1)) (hn : i ∈ tok) (hw : Region.wanted o (yielded ops a.tmps) = true)
    (h : ∀ x : Past W, Good W tok τ (depB ops i) x.w → wildAt P o a x.w (R i)) (h2 : wpTokL P ops W tok R Qh τ (i + 1) rest (a.put o.dst v1)) : wpTokL P ops W tok R Qh τ i (o :: rest) a := by
  refine .inr ⟨hn, hw, fun w hg => h ⟨w, hg.1⟩ hg, ?_⟩
  rw [e]
  exact h2
end
end
end Go.Proofs.YtmabigcolabbmaaGreatDoor
namespace Go.Proofs.YtmabigcolabbmaaGreatDoor
open Go Go.RowKit

/-- An operation that enters nothing and has one value, whatever the world (a builtin). -/
theorem tokL_sure {P : Program} {ops : Array Oper} {W : World} {tok : List Nat} {R : Nat → Value → World → Prop} {Qh : Act → World → Prop} {τ : Nat → Value × World} {i : Nat} {rest : List Oper} {a : Act} {o : Oper} (v : Value)
    (hn : i ∉ tok) (hw : Region.wanted o (yielded ops a.tmps) = true) (h : ∀ x : Past W, (execOp a.eval o).run P x.w = .ok (.value v) x.w)
    (hA : wpTokL P ops W tok R Qh τ (i + 1) rest (a.put o.dst v)) : wpTokL P ops W tok R Qh τ i (o :: rest) a := by
  refine .inl ⟨hn, v, .inl ⟨hw, fun w hg => ⟨?_, ?_⟩⟩, hA⟩
  · unfold Oper.quietAt
    have e : (execOp a.eval o).run P w = .ok (.value v) w := h ⟨w, hg.1⟩
    rw [e]
    exact ⟨rfl, rfl⟩
  · intro f args w' he
    rw [h ⟨w, hg.1⟩] at he
    cases he
/-- The item of a leaf, of two items. -/
def leafI (x : Lf) : Itm := ⟨256, cut x.a 256, shaLab (leafB x), x.e⟩
def innerI (x y : Itm) : Itm := ⟨common x.b y.b, cut x.b (common x.b y.b), shaLab (innerB x y), max x.e y.e⟩
theorem strs_at0 (w : World) : StrsAt w (.slice none 0 0) [] := ⟨none, 0, rfl, fun i hi => absurd hi (Nat.not_lt_zero i)⟩

set_option maxRecDepth 100000 in
set_option maxHeartbeats 1000000 in
theorem nEmpty_any (w : World) (ht : Cubes w) : Calls Tryz.prog 33 #[] w fun e w' => e = .returned (.agg (cellsL (shaLab [18]))) ∧ Below w.heap.size w w' := by
  have b0 : Below w.heap.size w (w.alloc (.cells (cellsL zeroLab) 27)) := (Below.refl _ _).alloc (Nat.le_refl _) _
  have r0 : rowAt (w.alloc (.cells (cellsL zeroLab) 27)) w.heap.size = some (cellsL zeroLab) := rowAt_alloc_at _ _ _ _ rfl
  have HJ := Lib.hid (fun w (h : Cubes w) => Joined_any 18 (.slice none 0 0) [] w (strs_at0 w) h (by simp) (by intro t h; cases h))
  rw [show (((18 : UInt8).toNat : Nat) : Int) = 18 from rfl, show joinL 18 [] = [18] from rfl] at HJ
  have T0 := Lib.hid (ht.below b0)
  clear ht
  generalize shaLab [18] = L at *
  go_enter Tryz.func33, Tryz.ntmps33
  go_wp2_with fail
  generalize w.alloc (.cells (cellsL zeroLab) 27) = W at *
  refine (HJ.out _ T0.out).mono ?_
  rintro e w1 ⟨rfl, b1⟩
  have r1 := rowAt_past b1 r0
  have b2 := below_past b0 b1 b0.size
  clear HJ T0 b0 b1 r0
  go_wp2_with fail
  exact row_ret_labS rfl rfl rfl (rowAt_setRow_same r1 _) ⟨rfl, Below.setRow b2 (Nat.le_refl _) _⟩

set_option maxRecDepth 100000 in
set_option maxHeartbeats 1000000 in
theorem nLeafItem_any (x : Lf) (w : World) (ht : Cubes w) : Calls Tryz.prog 48 #[.agg (cellsF x)] w fun e w' => e = .returned (.agg (cellsI (leafI x))) ∧ Below w.heap.size w w' := by
  have b0 : Below w.heap.size w ((w.alloc (.cells (cellsF x) 51)).alloc (.cells (cellsI zeroItm) 68)) := ((Below.refl _ _).alloc (Nat.le_refl _) _).alloc (by simp only [World.size_alloc]; omega) _
  have r0 : rowAt ((w.alloc (.cells (cellsF x) 51)).alloc (.cells (cellsI zeroItm) 68)) w.heap.size = some (cellsF x) := (rowAt_alloc_past _ _ _ (by simp only [World.size_alloc]; omega)).trans (rowAt_alloc_at _ _ _ _ rfl)
  have r1 : rowAt ((w.alloc (.cells (cellsF x) 51)).alloc (.cells (cellsI zeroItm) 68)) (w.heap.size + 1) = some (cellsI zeroItm) := rowAt_alloc_at _ _ _ _ (by simp only [World.size_alloc])
  have T0 := Lib.hid (ht.below b0)
  have HC := Lib.hid (fun w => Cut_any x.a 256 w)
  rw [show (256 : Int).toNat = 256 from rfl, show min (max (256 : Int) 0) 256 = 256 from rfl] at HC
  have HL := Lib.hid (fun w => nleafTexts_any x w)
  have hS := leafT_short x
  have HJ := Lib.hid (fun v w hv (h : Cubes w) => Joined_any 16 v (leafT x) w hv h (by simp [leafT]) hS)
  rw [show (((16 : UInt8).toNat : Nat) : Int) = 16 from rfl] at HJ
  have fa := fun y : Past ((w.alloc (.cells (cellsF x) 51)).alloc (.cells (cellsI zeroItm) 68)) => rowAt_past y.h r0
  have c1 := fun y : Past ((w.alloc (.cells (cellsF x) 51)).alloc (.cells (cellsI zeroItm) 68)) => (cell_of_rowAt (rowAt_past y.h r0) 64).trans (get_F64 x)
  unfold leafI leafB
  generalize shaLab (joinL 16 (leafT x)) = J at *
  generalize hT : leafT x = T at *
  obtain ⟨m, hm⟩ : ∃ m, x.e = m := ⟨_, rfl⟩
  rw [hm] at c1 ⊢
  have HLX : Hid (∀ w : World, ∃ v W', Below w.heap.size w W' ∧ ∃ g, v = .slice (some ⟨g, 0, none⟩) 3 3 ∧ StrsAt W' v T) := Lib.hid fun w => ⟨_, _, (Below.refl _ _).alloc (Nat.le_refl _) _, _, rfl, by rw [← hT]; exact strs_at3 w x.a.l x.v.l (eightL x.e) _ rfl⟩
  clear ht hS hT hm
  go_enter Tryz.func48, Tryz.ntmps48
  go_wp2_with fail
  generalize (w.alloc (.cells (cellsF x) 51)).alloc (.cells (cellsI zeroItm) 68) = W at *
  obtain ⟨R, hR⟩ : ∃ R : Nat → Value → World → Prop, R 4 = (fun v W' => ∃ g, v = .slice (some ⟨g, 0, none⟩) 3 3 ∧ StrsAt W' v T) := ⟨fun _ => _, rfl⟩
  have HS : Hid (∀ i ∈ [4], ∃ v W', Below W.heap.size W W' ∧ R i v W') := Lib.hid (by
    intro i hi
    obtain rfl := List.mem_singleton.1 hi
    rw [hR]
    exact HLX.out W)
  refine wp_region_tok [4] 8 R (by kernel_rfl) (by kernel_rfl) HS.out ?_
  intro τ hτ
  rcases e1 : τ 4 with ⟨v1, W1⟩
  have t1 := hτ 4 (by simp)
  rw [e1, hR] at t1
  dsimp only at t1
  obtain ⟨hb1, g1, rfl, hc1⟩ := t1
  clear HS hτ HLX
  simp only [List.take_succ_cons, List.take_zero]
  iterate 2 (refine tokL_val (by decide) (by kernel_rfl) rfl ?_; intro K hK; go_big_quiet_op; go_big_quiet_on)
  refine tokL_call (by decide) (by kernel_rfl) (by kernel_rfl) ?_
  apply Exists.intro
  refine And.intro ?_ ?_
  focus
    intro x hg
    unfold Oper.quietAt
    go_simp
    (exact call_yields (HC.out _))
  simp only [Act.put, List.setIfInBounds_toArray, List.set_cons_succ, List.set_cons_zero]
  iterate 1 (refine tokL_val (by decide) (by kernel_rfl) rfl ?_; intro K hK; go_big_quiet_op; go_big_quiet_on)
  refine tokL_tok e1 (by decide) (by kernel_rfl) ?_ ?_
  focus
    intro x hg
    unfold wildAt
    go_simp
    (exact (HL.out _).mono (fun e w' ⟨g, he, hs, hb⟩ => ⟨_, he, hb, ⟨g, rfl⟩, hs⟩))
  simp only [Act.put, List.setIfInBounds_toArray, List.set_cons_succ, List.set_cons_zero]
  refine tokL_call (by decide) (by kernel_rfl) (by kernel_rfl) ?_
  apply Exists.intro
  refine And.intro ?_ ?_
  focus
    intro x hg
    unfold Oper.quietAt
    go_simp
    (exact call_yields (HJ.out _ _ (hc1.below (by have := hg.2 4 (by simp) (by kernel_rfl); rw [e1] at this; exact this)) (T0.out.below x.h)))
  simp only [Act.put, List.setIfInBounds_toArray, List.set_cons_succ, List.set_cons_zero]
  iterate 2 (refine tokL_val (by decide) (by kernel_rfl) rfl ?_; intro K hK; go_big_quiet_op; go_big_quiet_on)
  refine tokL_nil ?_
  simp only [List.drop_succ_cons, List.drop_zero]
  intro z hz
  have b3 := below_past b0 hz.1 b0.size
  have r3 := rowAt_past hz.1 r1
  clear hz hc1 hb1 b0 r0 r1 fa c1 T0 HC HL HJ e1 hR
  go_wp2_with fail
  exact row_ret_item rfl rfl rfl (rowAt_setRow_same r3 _) ⟨rfl, Below.setRow b3 (Nat.le_succ _) _⟩

set_option maxRecDepth 100000 in
set_option maxHeartbeats 2000000 in
theorem nInnerItem_any (x y : Itm) (w : World) (ht : Cubes w) : Calls Tryz.prog 55 #[.agg (cellsN x y)] w fun e w' => e = .returned (.agg (cellsI (innerI x y))) ∧ Below w.heap.size w w' := by
  have hle := common_le x.b y.b
  have b0 : Below w.heap.size w ((w.alloc (.cells (cellsN x y) 77)).alloc (.cells (cellsI zeroItm) 68)) := ((Below.refl _ _).alloc (Nat.le_refl _) _).alloc (by simp only [World.size_alloc]; omega) _
  have r0 : rowAt ((w.alloc (.cells (cellsN x y) 77)).alloc (.cells (cellsI zeroItm) 68)) w.heap.size = some (cellsN x y) := (rowAt_alloc_past _ _ _ (by simp only [World.size_alloc]; omega)).trans (rowAt_alloc_at _ _ _ _ rfl)
  have r1 : rowAt ((w.alloc (.cells (cellsN x y) 77)).alloc (.cells (cellsI zeroItm) 68)) (w.heap.size + 1) = some (cellsI zeroItm) := rowAt_alloc_at _ _ _ _ (by simp only [World.size_alloc])
  have T0 := Lib.hid (ht.below b0)
  have HCO := Lib.hid (fun w => Common_any x.b y.b w)
  have HC := Lib.hid (fun w => Cut_any x.b (common x.b y.b) w)
  rw [Int.toNat_natCast, show min (max ((common x.b y.b : Nat) : Int) 0) 256 = (common x.b y.b : Nat) by omega] at HC
  have HL := Lib.hid (fun w => ninnerTexts_any x y w)
  have hS := innerT_short x y
  have HJ := Lib.hid (fun v w hv (h : Cubes w) => Joined_any 17 v (innerT x y) w hv h (by simp [innerT]) hS)
  rw [show (((17 : UInt8).toNat : Nat) : Int) = 17 from rfl] at HJ
  have g65 := get_N65 x y
  have g131 := get_N131 x y
  unfold innerI innerB
  have HLX : Hid (∀ w : World, ∃ v W', Below w.heap.size w W' ∧ ∃ g, v = .slice (some ⟨g, 0, none⟩) 2 2 ∧ StrsAt W' v (innerT x y)) := Lib.hid fun w => ⟨_, _, (Below.refl _ _).alloc (Nat.le_refl _) _, _, rfl, strs_at2 w (itemT x) (itemT y) _ rfl⟩
  generalize shaLab (joinL 17 (innerT x y)) = J at *
  generalize innerT x y = T at *
  generalize cut x.b (common x.b y.b) = CU at *
  generalize common x.b y.b = cn at *
  obtain ⟨m, hm⟩ : ∃ m, x.e = m := ⟨_, rfl⟩
  obtain ⟨k, hk⟩ : ∃ k, y.e = k := ⟨_, rfl⟩
  rw [hm] at g65 ⊢
  rw [hk] at g131 ⊢
  clear ht hS hm hk hle
  go_enter Tryz.func55, Tryz.ntmps55
  go_wp2_with fail
  generalize (w.alloc (.cells (cellsN x y) 77)).alloc (.cells (cellsI zeroItm) 68) = W at *
  have hl0 := lt_of_rowAt r0
  have hl1 := lt_of_rowAt r1
  have ra := rowAt_past ((Below.refl W.heap.size W).alloc (Nat.le_refl _) (.cells (cellsL zeroLab) 27)) r0
  have rb := rowAt_past (((Below.refl W.heap.size W).alloc (Nat.le_refl _) (.cells (cellsL zeroLab) 27)).alloc (by simp) (.cells (cellsL zeroLab) 27)) r0
  go_region
  · go_wp2_with fail
    have bW : Below W.heap.size W (((W.alloc (.cells (cellsL x.b) 27)).alloc (.cells (cellsL y.b) 27)).drew) := (((Below.refl W.heap.size W).alloc (Nat.le_refl _) _).alloc (by simp) _).drew
    have q1 : rowAt (((W.alloc (.cells (cellsL x.b) 27)).alloc (.cells (cellsL y.b) 27)).drew) W.heap.size = some (cellsL x.b) := by rw [rowAt_drew, rowAt_alloc_past _ _ _ (by simp), rowAt_alloc_at _ _ _ _ rfl]
    have q2 : rowAt (((W.alloc (.cells (cellsL x.b) 27)).alloc (.cells (cellsL y.b) 27)).drew) (W.heap.size + 1) = some (cellsL y.b) := by rw [rowAt_drew]; exact rowAt_alloc_at _ _ _ _ (by simp)
    have r2 := rowAt_past bW r0
    have r3 := rowAt_past bW r1
    have T1 := Lib.hid (T0.out.below bW)
    have b1 := below_past b0 bW b0.size
    clear bW r0 r1 ra rb hl0 hl1 T0 b0
    generalize ((W.alloc (.cells (cellsL x.b) 27)).alloc (.cells (cellsL y.b) 27)).drew = W2 at *
    have fa := fun z : Past W2 => rowAt_past z.h q1
    have fb := fun z : Past W2 => rowAt_past z.h q2
    have fc := fun z : Past W2 => rowAt_past z.h r2
    have c1 := fun z : Past W2 => (cell_of_rowAt (rowAt_past z.h r2) 65).trans g65
    have c2 := fun z : Past W2 => (cell_of_rowAt (rowAt_past z.h r2) 131).trans g131
    obtain ⟨R, hR⟩ : ∃ R : Nat → Value → World → Prop, R 6 = (fun v W' => ∃ g, v = .slice (some ⟨g, 0, none⟩) 2 2 ∧ StrsAt W' v T) := ⟨fun _ => _, rfl⟩
    have HS : Hid (∀ i ∈ [6], ∃ v W', Below W2.heap.size W2 W' ∧ R i v W') := Lib.hid (by
      intro i hi
      obtain rfl := List.mem_singleton.1 hi
      rw [hR]
      exact HLX.out W2)
    refine wp_region_tok [6] 15 R (by kernel_rfl) (by kernel_rfl) HS.out ?_
    intro τ hτ
    rcases e1 : τ 6 with ⟨v1, W1⟩
    have t1 := hτ 6 (by simp)
    rw [e1, hR] at t1
    dsimp only at t1
    obtain ⟨hb1, g1, rfl, hc1⟩ := t1
    clear HS hτ HLX
    simp only [List.take_succ_cons, List.take_zero]
    iterate 3 (refine tokL_val (by decide) (by kernel_rfl) rfl ?_; intro K hK; go_big_quiet_op; go_big_quiet_on)
    refine tokL_call (by decide) (by kernel_rfl) (by kernel_rfl) ?_
    apply Exists.intro
    refine And.intro ?_ ?_
    focus
      intro x hg
      unfold Oper.quietAt
      go_simp
      (exact call_yields (HCO.out _))
    simp only [Act.put, List.setIfInBounds_toArray, List.set_cons_succ, List.set_cons_zero]
    refine tokL_call (by decide) (by kernel_rfl) (by kernel_rfl) ?_
    apply Exists.intro
    refine And.intro ?_ ?_
    focus
      intro x hg
      unfold Oper.quietAt
      go_simp
      (exact call_yields (HC.out _))
    simp only [Act.put, List.setIfInBounds_toArray, List.set_cons_succ, List.set_cons_zero]
    iterate 1 (refine tokL_val (by decide) (by kernel_rfl) rfl ?_; intro K hK; go_big_quiet_op; go_big_quiet_on)
    refine tokL_tok e1 (by decide) (by kernel_rfl) ?_ ?_
    focus
      intro x hg
      unfold wildAt
      go_simp
      (exact (HL.out _).mono (fun e w' ⟨g, he, hs, hb⟩ => ⟨_, he, hb, ⟨g, rfl⟩, hs⟩))
    simp only [Act.put, List.setIfInBounds_toArray, List.set_cons_succ, List.set_cons_zero]
    refine tokL_call (by decide) (by kernel_rfl) (by kernel_rfl) ?_
    apply Exists.intro
    refine And.intro ?_ ?_
    focus
      intro x hg
      unfold Oper.quietAt
      go_simp
      (exact call_yields (HJ.out _ _ (hc1.below (by have := hg.2 6 (by simp) (by kernel_rfl); rw [e1] at this; exact this)) (T1.out.below x.h)))
    simp only [Act.put, List.setIfInBounds_toArray, List.set_cons_succ, List.set_cons_zero]
    iterate 6 (refine tokL_val (by decide) (by kernel_rfl) rfl ?_; intro K hK; go_big_quiet_op; go_big_quiet_on)
    refine tokL_sure (.int .i64 (max m k)) (by decide) (by kernel_rfl) (fun x => by go_simp) ?_
    simp only [Act.put, List.setIfInBounds_toArray, List.set_cons_succ, List.set_cons_zero]
    refine tokL_nil ?_
    simp only [List.drop_succ_cons, List.drop_zero]
    intro z hz
    have b3 := below_past b1 hz.1 b1.size
    have r4 := rowAt_past hz.1 r3
    clear hz hc1 hb1 b1 q1 q2 r2 r3 fa fb fc c1 c2 T1 HC HCO HL HJ e1 hR
    go_wp2_with fail
    exact row_ret_item rfl rfl rfl (rowAt_setRow_same r4 _) ⟨rfl, Below.setRow b3 (Nat.le_succ _) _⟩
  · go_wp2_with fail
    have bW : Below W.heap.size W (((W.alloc (.cells (cellsL y.b) 27)).alloc (.cells (cellsL x.b) 27)).drew) := (((Below.refl W.heap.size W).alloc (Nat.le_refl _) _).alloc (by simp) _).drew
    have q1 : rowAt (((W.alloc (.cells (cellsL y.b) 27)).alloc (.cells (cellsL x.b) 27)).drew) W.heap.size = some (cellsL y.b) := by rw [rowAt_drew, rowAt_alloc_past _ _ _ (by simp), rowAt_alloc_at _ _ _ _ rfl]
    have q2 : rowAt (((W.alloc (.cells (cellsL y.b) 27)).alloc (.cells (cellsL x.b) 27)).drew) (W.heap.size + 1) = some (cellsL x.b) := by rw [rowAt_drew]; exact rowAt_alloc_at _ _ _ _ (by simp)
    have r2 := rowAt_past bW r0
    have r3 := rowAt_past bW r1
    have T1 := Lib.hid (T0.out.below bW)
    have b1 := below_past b0 bW b0.size
    clear bW r0 r1 ra rb hl0 hl1 T0 b0
    generalize ((W.alloc (.cells (cellsL y.b) 27)).alloc (.cells (cellsL x.b) 27)).drew = W2 at *
    have fa := fun z : Past W2 => rowAt_past z.h q1
    have fb := fun z : Past W2 => rowAt_past z.h q2
    have fc := fun z : Past W2 => rowAt_past z.h r2
    have c1 := fun z : Past W2 => (cell_of_rowAt (rowAt_past z.h r2) 65).trans g65
    have c2 := fun z : Past W2 => (cell_of_rowAt (rowAt_past z.h r2) 131).trans g131
    obtain ⟨R, hR⟩ : ∃ R : Nat → Value → World → Prop, R 6 = (fun v W' => ∃ g, v = .slice (some ⟨g, 0, none⟩) 2 2 ∧ StrsAt W' v T) := ⟨fun _ => _, rfl⟩
    have HS : Hid (∀ i ∈ [6], ∃ v W', Below W2.heap.size W2 W' ∧ R i v W') := Lib.hid (by
      intro i hi
      obtain rfl := List.mem_singleton.1 hi
      rw [hR]
      exact HLX.out W2)
    refine wp_region_tok [6] 15 R (by kernel_rfl) (by kernel_rfl) HS.out ?_
    intro τ hτ
    rcases e1 : τ 6 with ⟨v1, W1⟩
    have t1 := hτ 6 (by simp)
    rw [e1, hR] at t1
    dsimp only at t1
    obtain ⟨hb1, g1, rfl, hc1⟩ := t1
    clear HS hτ HLX
    simp only [List.take_succ_cons, List.take_zero]
    iterate 3 (refine tokL_val (by decide) (by kernel_rfl) rfl ?_; intro K hK; go_big_quiet_op; go_big_quiet_on)
    refine tokL_call (by decide) (by kernel_rfl) (by kernel_rfl) ?_
    apply Exists.intro
    refine And.intro ?_ ?_
    focus
      intro x hg
      unfold Oper.quietAt
      go_simp
      (exact call_yields (HCO.out _))
    simp only [Act.put, List.setIfInBounds_toArray, List.set_cons_succ, List.set_cons_zero]
    refine tokL_call (by decide) (by kernel_rfl) (by kernel_rfl) ?_
    apply Exists.intro
    refine And.intro ?_ ?_
    focus
      intro x hg
      unfold Oper.quietAt
      go_simp
      (exact call_yields (HC.out _))
    simp only [Act.put, List.setIfInBounds_toArray, List.set_cons_succ, List.set_cons_zero]
    iterate 1 (refine tokL_val (by decide) (by kernel_rfl) rfl ?_; intro K hK; go_big_quiet_op; go_big_quiet_on)
    refine tokL_tok e1 (by decide) (by kernel_rfl) ?_ ?_
    focus
      intro x hg
      unfold wildAt
      go_simp
      (exact (HL.out _).mono (fun e w' ⟨g, he, hs, hb⟩ => ⟨_, he, hb, ⟨g, rfl⟩, hs⟩))
    simp only [Act.put, List.setIfInBounds_toArray, List.set_cons_succ, List.set_cons_zero]
    refine tokL_call (by decide) (by kernel_rfl) (by kernel_rfl) ?_
    apply Exists.intro
    refine And.intro ?_ ?_
    focus
      intro x hg
      unfold Oper.quietAt
      go_simp
      (exact call_yields (HJ.out _ _ (hc1.below (by have := hg.2 6 (by simp) (by kernel_rfl); rw [e1] at this; exact this)) (T1.out.below x.h)))
    simp only [Act.put, List.setIfInBounds_toArray, List.set_cons_succ, List.set_cons_zero]
    iterate 6 (refine tokL_val (by decide) (by kernel_rfl) rfl ?_; intro K hK; go_big_quiet_op; go_big_quiet_on)
    refine tokL_sure (.int .i64 (max m k)) (by decide) (by kernel_rfl) (fun x => by go_simp) ?_
    simp only [Act.put, List.setIfInBounds_toArray, List.set_cons_succ, List.set_cons_zero]
    refine tokL_nil ?_
    simp only [List.drop_succ_cons, List.drop_zero]
    intro z hz
    have b3 := below_past b1 hz.1 b1.size
    have r4 := rowAt_past hz.1 r3
    clear hz hc1 hb1 b1 q1 q2 r2 r3 fa fb fc c1 c2 T1 HC HCO HL HJ e1 hR
    go_wp2_with fail
    exact row_ret_item rfl rfl rfl (rowAt_setRow_same r4 _) ⟨rfl, Below.setRow b3 (Nat.le_succ _) _⟩
end Go.Proofs.YtmabigcolabbmaaGreatDoor
namespace Go.Proofs.YtmabigcolabbmaaGreatDoor
open Go Go.RowKit

@[go_sem] theorem mk_leaf (x : Value) (w : World) : (Instr.makeInterface 51 x).run Tryz.prog w = .ok (.iface 51 x) w := run_makeInterface w 51 x (by kernel_rfl)
@[go_sem] theorem mk_inner (x : Value) (w : World) : (Instr.makeInterface 77 x).run Tryz.prog w = .ok (.iface 77 x) w := run_makeInterface w 77 x (by kernel_rfl)
@[go_sem] theorem as_leaf (v : Value) (xT : TypeId) (w : World) : (Instr.typeAssert (.iface 51 v) xT 51 true).run Tryz.prog w = .ok (.tuple #[v, .bool true]) w := by
  simp [Instr.typeAssert, run_underlying Tryz.underlying51]
@[go_sem] theorem as_inner (v : Value) (xT : TypeId) (w : World) : (Instr.typeAssert (.iface 77 v) xT 77 true).run Tryz.prog w = .ok (.tuple #[v, .bool true]) w := by
  simp [Instr.typeAssert, run_underlying Tryz.underlying77]
@[go_sem] theorem as_leaf_inner (v : Value) (xT : TypeId) (w : World) : (Instr.typeAssert (.iface 77 v) xT 51 true).run Tryz.prog w = .ok (.tuple #[.agg (cellsF zeroLf), .bool false]) w := by
  simp [Instr.typeAssert, run_underlying Tryz.underlying51, zeroOf_leaf, zero_leaf]
@[go_sem] theorem as_inner_leaf (v : Value) (xT : TypeId) (w : World) : (Instr.typeAssert (.iface 51 v) xT 77 true).run Tryz.prog w = .ok (.tuple #[.agg (cellsN zeroItm zeroItm), .bool false]) w := by
  simp [Instr.typeAssert, run_underlying Tryz.underlying77, zeroOf_inner, zero_inner]
@[go_sem] theorem as_leaf_nil (xT : TypeId) (w : World) : (Instr.typeAssert .nilIface xT 51 true).run Tryz.prog w = .ok (.tuple #[.agg (cellsF zeroLf), .bool false]) w := by
  simp [Instr.typeAssert, run_underlying Tryz.underlying51, zeroOf_leaf, zero_leaf]
@[go_sem] theorem as_inner_nil (xT : TypeId) (w : World) : (Instr.typeAssert .nilIface xT 77 true).run Tryz.prog w = .ok (.tuple #[.agg (cellsN zeroItm zeroItm), .bool false]) w := by
  simp [Instr.typeAssert, run_underlying Tryz.underlying77, zeroOf_inner, zero_inner]

/-- May it be an epoch? -/
def epB (n : Int) : Bool := decide (0 ≤ n) && decide (n ≤ 1073741824)
def goodI (x : Itm) : Bool := good x.n x.b && epB x.e
/-- The error of two items. -/
def chkI (x y : Itm) : Int := if (goodI x && goodI y) = true then (if x.n ≤ common x.b y.b ∨ y.n ≤ common x.b y.b ∨ order x.b y.b ≠ -1 then 3 else 0) else 1
def chkF (x : Lf) : Int := if epB x.e = true then 0 else 1

set_option maxRecDepth 100000 in
theorem nisEpoch_any (n : Int) (w : World) : Calls Tryz.prog 57 #[.int .i64 n] w fun e w' => e = .returned (.bool (epB n)) ∧ w' = w := by
  unfold epB
  by_cases h0 : 0 ≤ n
  · have h0' : decide (0 ≤ n) = true := decide_eq_true h0
    by_cases h1 : n ≤ 1073741824
    · have h1' : decide (n ≤ 1073741824) = true := decide_eq_true h1
      go_enter Tryz.func57, Tryz.ntmps57
      go_wp2_with fail
      go_ret
      exact ⟨by first | rfl | (rw [h0', h1']; rfl), rfl⟩
    · have h1' : decide (n ≤ 1073741824) = false := decide_eq_false h1
      go_enter Tryz.func57, Tryz.ntmps57
      go_wp2_with fail
      go_ret
      exact ⟨by first | rfl | (rw [h0', h1']; rfl), rfl⟩
  · have h0' : decide (0 ≤ n) = false := decide_eq_false h0
    go_enter Tryz.func57, Tryz.ntmps57
    go_wp2_with fail
    go_ret
    exact ⟨by first | rfl | (rw [h0']; rfl), rfl⟩

set_option maxRecDepth 100000 in
theorem nGood_any (x : Itm) (w : World) : Calls Tryz.prog 35 #[.agg (cellsI x)] w fun e w' => e = .returned (.bool (goodI x)) ∧ Below w.heap.size w w' := by
  have b0 : Below w.heap.size w (w.alloc (.cells (cellsI x) 68)) := (Below.refl _ _).alloc (Nat.le_refl _) _
  have r0 : rowAt (w.alloc (.cells (cellsI x) 68)) w.heap.size = some (cellsI x) := rowAt_alloc_at _ _ _ _ rfl
  have HG := Lib.hid (fun w => Good_any x.n x.b w)
  have HE := Lib.hid (fun w => nisEpoch_any x.e w)
  have g65 := get_I65 x
  unfold goodI
  generalize good x.n x.b = g at *
  generalize epB x.e = p at *
  obtain ⟨m, hm⟩ : ∃ m, x.e = m := ⟨_, rfl⟩
  rw [hm] at g65 HE
  clear hm
  go_enter Tryz.func35, Tryz.ntmps35
  go_wp2_with fail
  generalize w.alloc (.cells (cellsI x) 68) = W at *
  refine (HG.out _).mono ?_
  rintro e w1 ⟨rfl, b1⟩
  have c1 := (cell_of_rowAt (rowAt_past b1 r0) 65).trans g65
  have b2 := below_past b0 b1 b0.size
  clear b0 b1 HG r0 g65
  cases g
  · go_wp2_with fail
    go_ret
    exact ⟨rfl, b2⟩
  · go_wp2_with fail
    refine (HE.out _).mono ?_
    rintro e w2 ⟨rfl, rfl⟩
    go_wp2_with fail
    go_ret
    exact ⟨rfl, b2⟩

set_option maxRecDepth 100000 in
theorem r15Good_any (x : Itm) (w : World) : Calls Tryz.prog 30 #[.agg (cellsI x)] w fun e w' => e = .returned (.bool (goodI x)) ∧ Below w.heap.size w w' := by
  have b0 : Below w.heap.size w (w.alloc (.cells (cellsI x) 53)) := (Below.refl _ _).alloc (Nat.le_refl _) _
  have r0 : rowAt (w.alloc (.cells (cellsI x) 53)) w.heap.size = some (cellsI x) := rowAt_alloc_at _ _ _ _ rfl
  have HG := Lib.hid (fun w => rGood_any x.n x.b w)
  have g0 := get_I0 x
  have g65 := get_I65 x
  unfold goodI epB
  obtain ⟨n, hn⟩ : ∃ n, x.n = n := ⟨_, rfl⟩
  obtain ⟨m, hm⟩ : ∃ m, x.e = m := ⟨_, rfl⟩
  rw [hn] at g0 HG ⊢
  rw [hm] at g65 ⊢
  have c0 := (cell_of_rowAt r0 0).trans g0
  generalize good n x.b = g at *
  clear hm hn
  go_enter Tryz.func30, Tryz.ntmps30
  go_wp2_with fail
  generalize w.alloc (.cells (cellsI x) 53) = W at *
  refine (HG.out _).mono ?_
  rintro e w1 ⟨rfl, b1⟩
  have c1 := (cell_of_rowAt (rowAt_past b1 r0) 65).trans g65
  have b2 := below_past b0 b1 b0.size
  clear b0 b1 HG r0 g65 g0 c0
  cases g
  · go_wp2_with fail
    go_ret
    exact ⟨rfl, b2⟩
  · by_cases h0 : 0 ≤ m
    · have h0' : decide (0 ≤ m) = true := decide_eq_true h0
      by_cases h1 : m ≤ 1073741824
      · have h1' : decide (m ≤ 1073741824) = true := decide_eq_true h1
        go_wp2_with fail
        go_ret
        exact ⟨by first | rfl | (rw [h0', h1']; rfl), b2⟩
      · have h1' : decide (m ≤ 1073741824) = false := decide_eq_false h1
        go_wp2_with fail
        go_ret
        exact ⟨by first | rfl | (rw [h0', h1']; rfl), b2⟩
    · have h0' : decide (0 ≤ m) = false := decide_eq_false h0
      go_wp2_with fail
      go_ret
      exact ⟨by first | rfl | (rw [h0']; rfl), b2⟩

set_option maxRecDepth 100000 in
theorem nleafFault_any (x : Lf) (w : World) : Calls Tryz.prog 92 #[.agg (cellsF x)] w fun e w' => e = .returned (.int .i64 (chkF x)) ∧ Below w.heap.size w w' := by
  have b0 : Below w.heap.size w (w.alloc (.cells (cellsF x) 51)) := (Below.refl _ _).alloc (Nat.le_refl _) _
  have r0 : rowAt (w.alloc (.cells (cellsF x) 51)) w.heap.size = some (cellsF x) := rowAt_alloc_at _ _ _ _ rfl
  have HE := Lib.hid (fun w => nisEpoch_any x.e w)
  have c1 := (cell_of_rowAt r0 64).trans (get_F64 x)
  unfold chkF
  generalize epB x.e = p at *
  obtain ⟨m, hm⟩ : ∃ m, x.e = m := ⟨_, rfl⟩
  rw [hm] at c1 HE
  clear hm
  go_enter Tryz.func92, Tryz.ntmps92
  go_wp2_with fail
  refine (HE.out _).mono ?_
  rintro e w1 ⟨rfl, rfl⟩
  cases p
  · go_wp2_with fail
    go_ret
    exact ⟨rfl, b0⟩
  · go_wp2_with fail
    go_ret
    exact ⟨rfl, b0⟩
end Go.Proofs.YtmabigcolabbmaaGreatDoor
namespace Go.Proofs.YtmabigcolabbmaaGreatDoor
open Go Go.RowKit

theorem common_sym (a b : Lab) : common a b = common b a := by
  refine common_of ?_
  have h := common_is b a
  exact ⟨h.le, fun i hi => (h.same i hi).symm, fun hlt => fun e => h.other hlt e.symm⟩
theorem order_one (a b : Lab) (h : common a b < 256) : order a b = 1 ∨ order a b = -1 := by
  unfold order
  rw [if_neg (by omega)]
  have := bit_lt a (common a b)
  omega
/-- The errors of two items, step by step. -/
theorem chkI_steps (x y : Itm) : chkI x y = if goodI x = false then 1 else if goodI y = false then 1 else if over x.n x.b y.n y.b = true then 3 else if over y.n y.b x.n x.b = true then 3 else if decide (0 < order x.b y.b) = true then 3 else 0 := by
  unfold chkI
  cases hx : goodI x
  · simp
  cases hy : goodI y
  · simp
  simp only [Bool.and_self, if_true, Bool.true_eq_false, if_false]
  have gx : good x.n x.b = true := by unfold goodI at hx; revert hx; cases good x.n x.b <;> simp
  have gy : good y.n y.b = true := by unfold goodI at hy; revert hy; cases good y.n y.b <;> simp
  obtain ⟨n, hn, hn2, _⟩ := good_nat gx
  obtain ⟨m, hm, hm2, _⟩ := good_nat gy
  have hs := common_sym y.b x.b
  unfold over has
  rw [gx, gy, hn, hm, hs]
  simp only [Bool.true_and]
  have ho := order_one x.b y.b
  generalize common x.b y.b = c at *
  generalize order x.b y.b = o at *
  by_cases h1 : (n : Int) ≤ c
  · rw [if_pos (.inl h1)]
    by_cases h2 : (n : Int) ≤ m
    · simp [h1, h2]
    · have h3 : (m : Int) ≤ n := by omega
      have h4 : (m : Int) ≤ c := by omega
      simp [h2, h3, h4]
  · by_cases h4 : (m : Int) ≤ c
    · rw [if_pos (.inr (.inl h4))]
      have h3 : (m : Int) ≤ n := by omega
      simp [h1, h3, h4]
    · have hc : c < 256 := by omega
      rcases ho hc with rfl | rfl
      · simp [h1, h4]
      · simp [h1, h4]

end Go.Proofs.YtmabigcolabbmaaGreatDoor
namespace Go.Proofs.YtmabigcolabbmaaGreatDoor
open Go Go.RowKit

set_option maxRecDepth 100000 in
set_option maxHeartbeats 2000000 in
theorem ninnerFault_any (x y : Itm) (w : World) : Calls Tryz.prog 93 #[.agg (cellsN x y)] w fun e w' => e = .returned (.int .i64 (chkI x y)) ∧ Below w.heap.size w w' := by
  have b0 : Below w.heap.size w (w.alloc (.cells (cellsN x y) 77)) := (Below.refl _ _).alloc (Nat.le_refl _) _
  have r0 : rowAt (w.alloc (.cells (cellsN x y) 77)) w.heap.size = some (cellsN x y) := rowAt_alloc_at _ _ _ _ rfl
  have HG1 := Lib.hid (fun w => nGood_any x w)
  have HG2 := Lib.hid (fun w => nGood_any y w)
  have HO1 := Lib.hid (fun w => Over_any x.n x.b y.n y.b w)
  have HO2 := Lib.hid (fun w => Over_any y.n y.b x.n x.b w)
  have HOR := Lib.hid (fun w => Order_any x.b y.b w)
  rw [chkI_steps]
  generalize goodI x = g1 at *
  generalize goodI y = g2 at *
  generalize over x.n x.b y.n y.b = o1 at *
  generalize over y.n y.b x.n x.b = o2 at *
  generalize order x.b y.b = o at *
  obtain ⟨E, hE⟩ : ∃ E : Int, (if g1 = false then 1 else if g2 = false then 1 else if o1 = true then 3 else if o2 = true then 3 else if decide (0 < o) = true then 3 else 0) = E := ⟨_, rfl⟩
  rw [hE]
  have HE := Lib.hid hE
  clear hE
  go_enter Tryz.func93, Tryz.ntmps93
  go_wp2_with fail
  generalize w.alloc (.cells (cellsN x y) 77) = W at *
  refine (HG1.out _).mono ?_
  rintro e w1 ⟨rfl, b1⟩
  have r2 := rowAt_past b1 r0
  have b2 := below_past b0 b1 b0.size
  clear b0 b1 HG1 r0
  cases g1
  · obtain rfl : E = 1 := by rw [← HE.out]; rfl
    go_wp2_with fail
    go_ret
    exact ⟨rfl, b2⟩
  go_wp2_with fail
  refine (HG2.out _).mono ?_
  rintro e W ⟨rfl, b1⟩
  have r0 := rowAt_past b1 r2
  have b3 := below_past b2 b1 b2.size
  clear b2 b1 HG2 r2
  cases g2
  · obtain rfl : E = 1 := by rw [← HE.out]; rfl
    go_wp2_with fail
    go_ret
    exact ⟨rfl, b3⟩
  go_wp2_with fail
  have hl0 := lt_of_rowAt r0
  have ra := rowAt_past ((Below.refl W.heap.size W).alloc (Nat.le_refl _) (.cells (cellsP 0 zeroLab) 66)) r0
  have rb := rowAt_past (((Below.refl W.heap.size W).alloc (Nat.le_refl _) (.cells (cellsP 0 zeroLab) 66)).alloc (by simp) (.cells (cellsP 0 zeroLab) 66)) r0
  go_region
  · have bW : Below W.heap.size W (((W.alloc (.cells (cellsP x.n x.b) 66)).alloc (.cells (cellsP y.n y.b) 66)).drew) := (((Below.refl W.heap.size W).alloc (Nat.le_refl _) _).alloc (by simp) _).drew
    have q1 : rowAt (((W.alloc (.cells (cellsP x.n x.b) 66)).alloc (.cells (cellsP y.n y.b) 66)).drew) W.heap.size = some (cellsP x.n x.b) := by rw [rowAt_drew, rowAt_alloc_past _ _ _ (by simp), rowAt_alloc_at _ _ _ _ rfl]
    have q2 : rowAt (((W.alloc (.cells (cellsP x.n x.b) 66)).alloc (.cells (cellsP y.n y.b) 66)).drew) (W.heap.size + 1) = some (cellsP y.n y.b) := by rw [rowAt_drew]; exact rowAt_alloc_at _ _ _ _ (by simp)
    have b4 := below_past b3 bW b3.size
    clear bW b3 r0 ra rb hl0
    generalize ((W.alloc (.cells (cellsP x.n x.b) 66)).alloc (.cells (cellsP y.n y.b) 66)).drew = W2 at *
    generalize W.heap.size = N at *
    go_wp2_with fail
    refine (HO1.out _).mono ?_
    rintro e w3 ⟨rfl, b1⟩
    have q3 := rowAt_past b1 q1
    have q4 := rowAt_past b1 q2
    have b5 := below_past b4 b1 b4.size
    clear q1 q2 b1 b4 HO1
    cases o1
    · go_wp2_with fail
      refine (HO2.out _).mono ?_
      rintro e w4 ⟨rfl, b1⟩
      have q1 := rowAt_past b1 q3
      have q2 := rowAt_past b1 q4
      have b4 := below_past b5 b1 b5.size
      clear q3 q4 b1 b5 HO2
      cases o2
      · go_wp2_with fail
        refine (HOR.out _).mono ?_
        rintro e w5 ⟨rfl, b1⟩
        have b5 := below_past b4 b1 b4.size
        clear q1 q2 b1 b4 HOR
        by_cases h3 : 0 < o
        · have h3' : decide (0 < o) = true := decide_eq_true h3
          obtain rfl : E = 3 := by rw [← HE.out]; simp [h3]
          go_wp2_with fail
          go_ret
          exact ⟨rfl, b5⟩
        · have h3' : decide (0 < o) = false := decide_eq_false h3
          obtain rfl : E = 0 := by rw [← HE.out]; simp [h3]
          go_wp2_with fail
          go_ret
          exact ⟨rfl, b5⟩
      · obtain rfl : E = 3 := by rw [← HE.out]; rfl
        go_wp2_with fail
        go_ret
        exact ⟨rfl, b4⟩
    · obtain rfl : E = 3 := by rw [← HE.out]; rfl
      go_wp2_with fail
      go_ret
      exact ⟨rfl, b5⟩
  · have bW : Below W.heap.size W (((W.alloc (.cells (cellsP y.n y.b) 66)).alloc (.cells (cellsP x.n x.b) 66)).drew) := (((Below.refl W.heap.size W).alloc (Nat.le_refl _) _).alloc (by simp) _).drew
    have q1 : rowAt (((W.alloc (.cells (cellsP y.n y.b) 66)).alloc (.cells (cellsP x.n x.b) 66)).drew) W.heap.size = some (cellsP y.n y.b) := by rw [rowAt_drew, rowAt_alloc_past _ _ _ (by simp), rowAt_alloc_at _ _ _ _ rfl]
    have q2 : rowAt (((W.alloc (.cells (cellsP y.n y.b) 66)).alloc (.cells (cellsP x.n x.b) 66)).drew) (W.heap.size + 1) = some (cellsP x.n x.b) := by rw [rowAt_drew]; exact rowAt_alloc_at _ _ _ _ (by simp)
    have b4 := below_past b3 bW b3.size
    clear bW b3 r0 ra rb hl0
    generalize ((W.alloc (.cells (cellsP y.n y.b) 66)).alloc (.cells (cellsP x.n x.b) 66)).drew = W2 at *
    generalize W.heap.size = N at *
    go_wp2_with fail
    refine (HO1.out _).mono ?_
    rintro e w3 ⟨rfl, b1⟩
    have q3 := rowAt_past b1 q1
    have q4 := rowAt_past b1 q2
    have b5 := below_past b4 b1 b4.size
    clear q1 q2 b1 b4 HO1
    cases o1
    · go_wp2_with fail
      refine (HO2.out _).mono ?_
      rintro e w4 ⟨rfl, b1⟩
      have q1 := rowAt_past b1 q3
      have q2 := rowAt_past b1 q4
      have b4 := below_past b5 b1 b5.size
      clear q3 q4 b1 b5 HO2
      cases o2
      · go_wp2_with fail
        refine (HOR.out _).mono ?_
        rintro e w5 ⟨rfl, b1⟩
        have b5 := below_past b4 b1 b4.size
        clear q1 q2 b1 b4 HOR
        by_cases h3 : 0 < o
        · have h3' : decide (0 < o) = true := decide_eq_true h3
          obtain rfl : E = 3 := by rw [← HE.out]; simp [h3]
          go_wp2_with fail
          go_ret
          exact ⟨rfl, b5⟩
        · have h3' : decide (0 < o) = false := decide_eq_false h3
          obtain rfl : E = 0 := by rw [← HE.out]; simp [h3]
          go_wp2_with fail
          go_ret
          exact ⟨rfl, b5⟩
      · obtain rfl : E = 3 := by rw [← HE.out]; rfl
        go_wp2_with fail
        go_ret
        exact ⟨rfl, b4⟩
    · obtain rfl : E = 3 := by rw [← HE.out]; rfl
      go_wp2_with fail
      go_ret
      exact ⟨rfl, b5⟩

/-- What a node is. -/
inductive Nd where
  | leaf (x : Lf)
  | inner (x y : Itm)
  | none
def Nd.val : Nd → Value
  | .leaf x => .iface 51 (.agg (cellsF x))
  | .inner x y => .iface 77 (.agg (cellsN x y))
  | .none => .nilIface
def chkN : Nd → Int
  | .leaf x => chkF x
  | .inner x y => chkI x y
  | .none => 3

set_option maxRecDepth 100000 in
set_option maxHeartbeats 2000000 in
theorem nfault_any (d : Nd) (w : World) : Calls Tryz.prog 58 #[d.val] w fun e w' => e = .returned (.int .i64 (chkN d)) ∧ Below w.heap.size w w' := by
  cases d with
  | leaf x =>
    have HF := Lib.hid (fun w => nleafFault_any x w)
    have b0 : Below w.heap.size w (w.alloc (.cells (cellsF x) 51)) := (Below.refl _ _).alloc (Nat.le_refl _) _
    have r0 : rowAt (w.alloc (.cells (cellsF x) 51)) w.heap.size = some (cellsF x) := rowAt_alloc_at _ _ _ _ rfl
    show Calls Tryz.prog 58 #[.iface 51 (.agg (cellsF x))] w fun e w' => e = .returned (.int .i64 (chkF x)) ∧ Below w.heap.size w w'
    generalize chkF x = E at *
    go_enter Tryz.func58, Tryz.ntmps58
    go_wp2_with fail
    generalize w.alloc (.cells (cellsF x) 51) = W at *
    refine (HF.out _).mono ?_
    rintro e w1 ⟨rfl, b1⟩
    have b2 := below_past b0 b1 b0.size
    clear b0 b1 HF r0
    go_wp2_with fail
    go_ret
    exact ⟨rfl, b2⟩
  | inner x y =>
    have HF := Lib.hid (fun w => ninnerFault_any x y w)
    have b0 : Below w.heap.size w (w.alloc (.cells (cellsN x y) 77)) := (Below.refl _ _).alloc (Nat.le_refl _) _
    have r0 : rowAt (w.alloc (.cells (cellsN x y) 77)) w.heap.size = some (cellsN x y) := rowAt_alloc_at _ _ _ _ rfl
    show Calls Tryz.prog 58 #[.iface 77 (.agg (cellsN x y))] w fun e w' => e = .returned (.int .i64 (chkI x y)) ∧ Below w.heap.size w w'
    generalize chkI x y = E at *
    go_enter Tryz.func58, Tryz.ntmps58
    go_wp2_with fail
    generalize w.alloc (.cells (cellsN x y) 77) = W at *
    refine (HF.out _).mono ?_
    rintro e w1 ⟨rfl, b1⟩
    have b2 := below_past b0 b1 b0.size
    clear b0 b1 HF r0
    go_wp2_with fail
    go_ret
    exact ⟨rfl, b2⟩
  | none =>
    show Calls Tryz.prog 58 #[.nilIface] w fun e w' => e = .returned (.int .i64 3) ∧ Below w.heap.size w w'
    go_enter Tryz.func58, Tryz.ntmps58
    go_wp2_with fail
    go_ret
    exact ⟨rfl, Below.refl _ _⟩
set_option maxRecDepth 100000 in
theorem ndCheck_any (d : Nd) (w : World) : Calls Tryz.prog 36 #[d.val] w fun e w' => e = .returned (.int .i64 (chkN d)) ∧ Below w.heap.size w w' := by
  have HF := Lib.hid (fun w => nfault_any d w)
  generalize d.val = v at *
  generalize chkN d = E at *
  go_enter Tryz.func36, Tryz.ntmps36
  go_wp2_with fail
  refine (HF.out _).mono ?_
  rintro e w1 ⟨rfl, b1⟩
  go_wp2_with fail
  go_ret
  exact ⟨rfl, b1⟩
end Go.Proofs.YtmabigcolabbmaaGreatDoor
namespace Go.Proofs.YtmabigcolabbmaaGreatDoor
open Go Go.RowKit Go.Sort Go.Lib

/-- The first error of neighbours. -/
def chkR : List Itm → Int
  | x :: y :: r => if chkI x y = 0 then chkR (y :: r) else chkI x y
  | _ => 0
def chkL (L : List Itm) : Int := if 2000 < L.length then 2 else match L with
  | [] => 0
  | x :: r => if goodI x = false then 1 else chkR (x :: r)
theorem chkL_cons (x : Itm) (r : List Itm) (h : ¬ 2000 < (x :: r).length) : chkL (x :: r) = if goodI x = false then 1 else chkR (x :: r) := by
  unfold chkL
  rw [if_neg h]
theorem chkR_step (L : List Itm) (i : Nat) (h : i + 1 < L.length) : chkR (L.drop i) = if chkI (L.getD i zeroItm) (L.getD (i + 1) zeroItm) = 0 then chkR (L.drop (i + 1)) else chkI (L.getD i zeroItm) (L.getD (i + 1) zeroItm) := by
  have e1 : L.drop i = L.getD i zeroItm :: L.drop (i + 1) := by
    rw [List.drop_eq_getElem_cons (by omega), List.getD_eq_getElem?_getD, List.getElem?_eq_getElem (by omega)]
    rfl
  have e2 : L.drop (i + 1) = L.getD (i + 1) zeroItm :: L.drop (i + 2) := by
    rw [List.drop_eq_getElem_cons (by omega), List.getD_eq_getElem?_getD, List.getElem?_eq_getElem (by omega)]
    rfl
  rw [e1, e2, chkR, ← e2]
theorem chkR_last (L : List Itm) (i : Nat) (h : L.length ≤ i + 1) : chkR (L.drop i) = 0 := by
  have : (L.drop i).length ≤ 1 := by rw [List.length_drop]; omega
  match hq : L.drop i, this with
  | [], _ => rfl
  | [x], _ => rfl
  | x :: y :: r, h => simp at h

set_option maxRecDepth 100000 in
set_option maxHeartbeats 2000000 in
theorem paCheck_any (v : Value) (L : List Itm) (hL : L.length ≤ 1000000) (w : World) (hA : AtI w.heap.size w v L) :
    Calls Tryz.prog 13 #[v] w fun e w' => e = .returned (.int .i64 (chkL L)) ∧ Below w.heap.size w w' := by
  obtain ⟨ao, cap, rfl, hA2⟩ := hA
  obtain ⟨B, hB⟩ : ∃ B, w.heap.size = B := ⟨_, rfl⟩
  obtain ⟨m, hm⟩ : ∃ m, L.length = m := ⟨_, rfl⟩
  have HM : Hid (L.length = m) := hm
  have HB : Hid (w.heap.size = B) := hB
  have hm1 : (m : Int) ≤ 1000000 := by omega
  have HA := Lib.hid hA2
  have b0 : Below B w w := Below.refl _ _
  rw [hm, hB] at HA
  rw [hm, hB]
  clear hA2 hm hL hB
  by_cases hbig : 2000 < m
  · have hb2 : (2000 : Int) < m := by omega
    have hv : chkL L = 2 := by
      unfold chkL
      rw [if_pos (by rw [HM.out]; exact hbig)]
    rw [hv]
    go_enter Tryz.func13, Tryz.ntmps13
    go_wp2
    go_ret
    exact ⟨rfl, b0⟩
  · have hb2 : ¬ (2000 : Int) < m := by omega
    by_cases h0 : m = 0
    · have hm0 : ¬ (0 : Int) < m := by omega
      have hm2 : ¬ (1 : Int) < m := by omega
      have hv : chkL L = 0 := by
        have : L = [] := List.eq_nil_of_length_eq_zero (HM.out.trans h0)
        rw [this]
        rfl
      rw [hv]
      go_enter Tryz.func13, Tryz.ntmps13
      go_wp2
      go_loopw [3] (fun s3 wr => s3 = .int .i64 1 ∧ wr = w) (fun _ _ => 0)
      case atStart => exact ⟨rfl, rfl⟩
      case round =>
        obtain ⟨rfl, rfl⟩ := hrel
        go_wp2
        go_ret
        exact ⟨rfl, b0⟩
    · have hm0 : (0 : Int) < m := by omega
      obtain ⟨g, o, cur, rfl, hg, hr0, hsz, hex⟩ := HA.out 0 (by omega)
      rw [Nat.zero_mul, Nat.add_zero] at hex
      have hsz1 : o + 66 ≤ cur.size := by omega
      obtain ⟨x, hx⟩ : ∃ x, L.getD 0 zeroItm = x := ⟨_, rfl⟩
      rw [hx] at hex
      have HG := Lib.hid (nGood_any x w)
      have hcons : L = x :: L.drop 1 := by
        cases L with
        | nil => exact absurd HM.out.symm h0
        | cons a r => rw [← hx]; rfl
      have hch : chkL L = if goodI x = false then 1 else chkR L := by
        have := chkL_cons x (L.drop 1) (by rw [← hcons, HM.out]; exact hbig)
        rw [← hcons] at this
        exact this
      rw [hch]
      have HR : Hid (chkR L = chkR (L.drop 0)) := rfl
      clear hcons hch
      cases hgood : goodI x with
      | false =>
        rw [hgood] at HG
        rw [if_pos rfl]
        go_enter Tryz.func13, Tryz.ntmps13
        go_wp2_with fail
        refine HG.out.mono ?_
        rintro e w2 ⟨rfl, b2⟩
        have b3 : Below B w w2 := by rw [HB.out] at b2; exact b2
        clear HG hr0 hex hsz hsz1 b2
        go_wp2
        go_ret
        exact ⟨rfl, b3⟩
      | true =>
        rw [hgood] at HG
        rw [if_neg (by decide)]
        go_enter Tryz.func13, Tryz.ntmps13
        go_wp2_with fail
        refine HG.out.mono ?_
        rintro e w2 ⟨rfl, b2⟩
        have b3 : Below B w w2 := by rw [HB.out] at b2; exact b2
        clear HG hr0 hex hsz hsz1 b2 b0 hg
        go_wp2
        go_loopw [3] (fun s3 wr => ∃ j : Nat, s3 = .int .i64 j ∧ 1 ≤ j ∧ j ≤ m ∧ Hid (chkR L = chkR (L.drop (j - 1))) ∧ Below B w wr) (fun s3 _ => (m - intOf s3).toNat)
        case atStart => exact ⟨1, rfl, Nat.le_refl _, by omega, HR, b3⟩
        case round =>
          clear b3 HR
          obtain ⟨j, rfl, hj1, hj, HR, B1⟩ := hrel
          by_cases hlt : j < m
          · have hlt' : (j : Int) < m := by omega
            obtain ⟨i, hi⟩ : ∃ i, i + 1 = j := ⟨j - 1, by omega⟩
            have wi : IntKind.i64.wrap ((j : Int) - 1) = (i : Int) := by rw [IntKind.wrap_i64]; omega
            have him : i < m := by omega
            obtain ⟨g1, o1, c1, e1, hg1, hr1, hs1, hx1⟩ := HA.out i him
            cases e1
            obtain ⟨g2, o2, c2, e2, hg2, hr2, hs2, hx2⟩ := HA.out j hlt
            cases e2
            obtain rfl : c1 = c2 := Option.some.inj (hr1.symm.trans hr2)
            have q1 : rowAt wr g = some c1 := (rowAt_below B1 hg1).trans hr1
            have p1 := fun x : Past wr => Past.row q1 x
            have hs3 : o + i * 66 + 66 ≤ c1.size := by omega
            have hs4 : o + j * 66 + 66 ≤ c1.size := by omega
            obtain ⟨X, hX⟩ : ∃ X, L.getD i zeroItm = X := ⟨_, rfl⟩
            obtain ⟨Y, hY⟩ : ∃ Y, L.getD j zeroItm = Y := ⟨_, rfl⟩
            rw [hX] at hx1
            rw [hY] at hx2
            have HC : Hid (∀ w, Calls Tryz.prog 36 #[.iface 77 (.agg (cellsN X Y))] w fun e w' => e = .returned (.int .i64 (chkI X Y)) ∧ Below w.heap.size w w') := fun w => ndCheck_any (.inner X Y) w
            have HE : Hid (chkR L = if chkI X Y = 0 then chkR (L.drop j) else chkI X Y) := by
              show _ = _
              rw [HR.out, show j - 1 = i by omega, chkR_step L i (by rw [HM.out]; omega), hi, hX, hY]
            have hBw : B ≤ wr.heap.size := by have := B1.size; have := HB.out; omega
            clear hr1 hr2 hs1 hs2 hg1 hg2 HR q1 hX hY hi
            generalize chkI X Y = E at HC HE
            go_wp2_with fail
            refine wp_region_past (by kernel_rfl) (by kernel_rfl) ?_
            repeat (go_big_quiet_step (first | (go_at_call 36; exact Past.call (HC.out _))))
            refine wpQuiet_nil ?_
            intro w2 hw2
            obtain ⟨⟨wn, hn⟩, rfl⟩ := hw2
            try dsimp only
            have B2 := B1.trans (hn.mono hBw)
            clear hn p1 hs3 hs4 hx1 hx2 HC B1 hBw
            by_cases hE : E = 0
            · subst hE
              have HR2 : Hid (chkR L = chkR (L.drop j)) := HE.out
              clear HE
              go_wp2
              go_roundw
              case rel => exact ⟨j + 1, by go_num, by omega, by omega, HR2, B2⟩
              case measure => simp [intOf]; omega
            · have qe : (E != 0) = true := by rw [bne_iff_ne]; exact hE
              have HR2 : Hid (chkR L = E) := by
                show _ = _
                rw [HE.out, if_neg hE]
              clear HE
              go_wp2
              go_ret
              rw [HR2.out]
              exact ⟨rfl, B2⟩
          · have hlt' : ¬ (j : Int) < m := by omega
            have h0 : chkR L = 0 := by rw [HR.out]; exact chkR_last L (j - 1) (by rw [HM.out]; omega)
            rw [h0]
            go_wp2
            go_ret
            exact ⟨rfl, B1⟩
end Go.Proofs.YtmabigcolabbmaaGreatDoor
namespace Go.Proofs.YtmabigcolabbmaaGreatDoor
open Go Go.RowKit Go.Sort Go.Lib

theorem ext_ext (c : Array Value) (s i j n : Nat) (hj : j ≤ n) : (c.extract s (s + n)).extract i j = c.extract (s + i) (s + j) := by
  rw [Array.extract_extract]
  congr 1
  omega
theorem ext_b {c : Array Value} {s : Nat} {x : Itm} (hx : c.extract s (s + 66) = cellsI x) : c.extract (s + 1) (s + 1 + 32) = cellsL x.b := by
  rw [show s + 1 + 32 = s + 33 by omega, ← ext_ext c s 1 33 66 (by decide), hx, extract_I1]
def commonL (L : List Itm) : Nat := common (L.getD 0 zeroItm).b (L.getD (L.length - 1) zeroItm).b

set_option maxRecDepth 100000 in
set_option maxHeartbeats 2000000 in
theorem paCommon_any (v : Value) (L : List Itm) (h0 : 0 < L.length) (hL : L.length ≤ 1000000) (w : World) (hA : AtI w.heap.size w v L) :
    Calls Tryz.prog 78 #[v] w fun e w' => e = .returned (.int .i64 (commonL L)) ∧ Below w.heap.size w w' := by
  obtain ⟨ao, cap, rfl, hA2⟩ := hA
  obtain ⟨m, hm⟩ : ∃ m, L.length = m := ⟨_, rfl⟩
  rw [hm] at h0 hL hA2 ⊢
  obtain ⟨k, hk⟩ : ∃ k, k + 1 = m := ⟨m - 1, by omega⟩
  have hm1 : (m : Int) ≤ 1000000 := by omega
  have hm0 : (0 : Int) < m := by omega
  have wk : IntKind.i64.wrap ((m : Int) - 1) = (k : Int) := by rw [IntKind.wrap_i64]; omega
  have hkm : k < m := by omega
  obtain ⟨g, o, c, rfl, hg, hr, hs, hx⟩ := hA2 0 h0
  obtain ⟨g2, o2, c2, e2, hg2, hr2, hs2, hx2⟩ := hA2 k hkm
  cases e2
  obtain rfl : c = c2 := Option.some.inj (hr.symm.trans hr2)
  rw [Nat.zero_mul, Nat.add_zero] at hx
  have f1 := ext_b hx
  have f2 := ext_b hx2
  have s1 : o + 1 + 32 ≤ c.size := by omega
  have s2 : o + k * 66 + 1 + 32 ≤ c.size := by omega
  have p1 := fun x : Past w => Past.row hr x
  have hv : commonL L = common (L.getD 0 zeroItm).b (L.getD k zeroItm).b := by rw [commonL, hm, ← hk, Nat.add_sub_cancel]
  rw [hv]
  generalize L.getD 0 zeroItm = X at f1 ⊢
  generalize L.getD k zeroItm = Y at f2 ⊢
  have HC := Lib.hid (fun w => Common_any X.b Y.b w)
  generalize common X.b Y.b = n at HC ⊢
  have b0 : Below w.heap.size w w := Below.refl _ _
  clear hA2 hx hx2 hs hs2 hr2 hg2 hv hm hk
  go_enter Tryz.func78, Tryz.ntmps78
  go_wp2_with fail
  refine wp_region_past (by kernel_rfl) (by kernel_rfl) ?_
  repeat (go_big_quiet_step (first | (go_at_call 90; exact Past.call (HC.out _))))
  refine wpQuiet_nil ?_
  intro w2 hw2
  obtain ⟨⟨wn, hn⟩, rfl⟩ := hw2
  try dsimp only
  have B2 := b0.trans hn
  go_wp2
  go_ret
  exact ⟨rfl, B2⟩
/-- Is the bit behind what all have in common set? -/
def forkP (L : List Itm) (n : Int) (i : Nat) : Bool := bitI (L.getD i zeroItm).b n == 1
set_option maxRecDepth 100000 in
set_option maxHeartbeats 2000000 in
theorem paFork1_any (b1 b2 : Nat) (ao : Option Addr) (cap : Nat) (n : Int) (L : List Itm) (n0 : Nat) (w : World) (hA : AtI n0 w (.slice ao L.length cap) L) (i : Nat) (hi : i < L.length)
    (h1 : w.cell? ⟨b1, 0, none⟩ = some (.slice ao L.length cap)) (h2 : w.cell? ⟨b2, 0, none⟩ = some (.int .i64 n)) :
    Calls Tryz.prog 80 #[.int .i64 i, .pointer (some ⟨b1, 0, none⟩), .pointer (some ⟨b2, 0, none⟩)] w fun e w' => e = .returned (.bool (forkP L n i)) ∧ Below w.heap.size w w' := by
  obtain ⟨ao', cap', e0, hA2⟩ := hA
  injection e0 with e1 e2 e3
  subst e1
  obtain ⟨g, o, c, rfl, hg, hr, hs, hx⟩ := hA2 i hi
  have f1 := ext_b hx
  have s1 : o + i * 66 + 1 + 32 ≤ c.size := by omega
  have p1 := fun x : Past w => Past.row hr x
  have k1 := fun x : Past w => (Past.cell (cellLt h1) x).trans h1
  have k2 := fun x : Past w => (Past.cell (cellLt h2) x).trans h2
  obtain ⟨m, hm⟩ : ∃ m, L.length = m := ⟨_, rfl⟩
  rw [hm] at h1 hi k1
  have hi' : (i : Int) < m := by omega
  unfold forkP
  generalize L.getD i zeroItm = X at f1 ⊢
  have HC := Lib.hid (fun w => Bit_any X.b n w)
  generalize bitI X.b n = z at HC ⊢
  have b0 : Below w.heap.size w w := Below.refl _ _
  clear hA2 hx hs hg hm e2 e3 h1 h2 hr
  go_enter Tryz.func80, Tryz.ntmps80
  go_wp2_with fail
  refine wp_region_past (by kernel_rfl) (by kernel_rfl) ?_
  repeat (go_big_quiet_step (first | (go_at_call 81; exact Past.call (HC.out _))))
  refine wpQuiet_nil ?_
  intro w2 hw2
  obtain ⟨⟨wn, hn⟩, rfl⟩ := hw2
  try dsimp only
  have B2 := b0.trans hn
  go_wp2
  go_ret
  exact ⟨rfl, B2⟩
set_option maxRecDepth 100000 in
set_option maxHeartbeats 2000000 in
theorem paSearch_any (n : Nat) (p : Nat → Bool) (A B : Value) (w : World) (hn : n ≤ 1000000)
    (hf : ∀ W, Below w.heap.size w W → ∀ i, i < n → Calls Tryz.prog 80 #[.int .i64 i, A, B] W fun e w' => e = .returned (.bool (p i)) ∧ Below W.heap.size W w')
    (hm : ∀ a b, a ≤ b → b < n → p a = true → p b = true) :
    Calls Tryz.prog 79 #[.int .i64 n, .func (.func 80) #[] #[A, B]] w fun e w' => (∃ c : Nat, e = .returned (.int .i64 c) ∧ c ≤ n ∧ (∀ t, t < c → p t = false) ∧ (∀ t, c ≤ t → t < n → p t = true)) ∧ Below w.heap.size w w' := by
  have HF := Lib.hid hf
  have HM := Lib.hid hm
  have hn1 : (n : Int) ≤ 1000000 := by omega
  clear hf hm
  go_enter Tryz.func79, Tryz.ntmps79
  go_wp2_with fail
  go_loopw [5, 6] (fun x y wr => ∃ i j : Nat, x = .int .i64 i ∧ y = .int .i64 j ∧ i ≤ j ∧ j ≤ n ∧ Hid ((∀ t, t < i → p t = false) ∧ (∀ t, j ≤ t → t < n → p t = true)) ∧ Below w.heap.size w wr) (fun x y _ => (intOf y - intOf x).toNat)
  case atStart => exact ⟨0, n, rfl, rfl, Nat.zero_le _, Nat.le_refl _, Lib.hid ⟨fun t h => absurd h (Nat.not_lt_zero _), fun t h1 h2 => by omega⟩, Below.refl _ _⟩
  case round =>
    obtain ⟨i, j, rfl, rfl, hij, hj, HI, b1⟩ := hrel
    by_cases hlt : i < j
    · have h1 : (i : Int) < j := by omega
      have h2 : (i : Int) + j ≤ 2000000 := by omega
      have h0 : (0 : Int) ≤ (i : Int) + j := by omega
      obtain ⟨m, hm⟩ : ∃ m, (i + j) / 2 = m := ⟨_, rfl⟩
      have hm1 : ((i : Int) + j) / 2 = m := by omega
      have hmi : i ≤ m := by omega
      have hmj : m < j := by omega
      have hm2 : (m : Int) ≤ 1000000 := by omega
      have HFM := Lib.hid (HF.out wr b1 m (by omega))
      clear hm
      go_wp2_with fail
      refine HFM.out.mono ?_
      rintro e w1 ⟨rfl, b2⟩
      have b3 := below_past b1 b2 b1.size
      clear HFM b1 b2
      cases hp : p m with
      | false =>
        have HI2 : Hid ((∀ t, t < m + 1 → p t = false) ∧ (∀ t, j ≤ t → t < n → p t = true)) := Lib.hid ⟨(fun t ht => by
          cases h : p t with
          | false => rfl
          | true =>
            have := HM.out t m (by omega) (by omega) h
            rw [hp] at this
            cases this), HI.out.2⟩
        clear hp
        go_wp2_with fail
        exact ⟨⟨m + 1, j, by go_num, rfl, by omega, hj, HI2, b3⟩, by simp [intOf]; omega⟩
      | true =>
        have HI2 : Hid ((∀ t, t < i → p t = false) ∧ (∀ t, m ≤ t → t < n → p t = true)) := Lib.hid ⟨HI.out.1, fun t h1 h2 => HM.out m t h1 h2 hp⟩
        clear hp
        go_wp2_with fail
        exact ⟨⟨i, m, rfl, rfl, hmi, by omega, HI2, b3⟩, by simp [intOf]; omega⟩
    · obtain rfl : i = j := by omega
      go_wp2_with fail
      go_ret
      exact ⟨⟨i, rfl, hj, HI.out.1, HI.out.2⟩, b1⟩
/-- Where a list of items parts. -/
def ForkAt (L : List Itm) (c : Nat) : Prop := c ≤ L.length ∧ (∀ t, t < c → forkP L (commonL L) t = false) ∧ (∀ t, c ≤ t → t < L.length → forkP L (commonL L) t = true)
set_option maxRecDepth 100000 in
set_option maxHeartbeats 2000000 in
theorem paFork_any (v : Value) (L : List Itm) (h0 : 0 < L.length) (hL : L.length ≤ 1000000) (hm : ∀ a b, a ≤ b → b < L.length → forkP L (commonL L) a = true → forkP L (commonL L) b = true) (w : World) (hA : AtI w.heap.size w v L) :
    Calls Tryz.prog 47 #[v] w fun e w' => (∃ c : Nat, e = .returned (.int .i64 c) ∧ ForkAt L c) ∧ Below w.heap.size w w' := by
  obtain ⟨ao, cap, rfl, hA2⟩ := hA
  have hA : AtI w.heap.size w (.slice ao L.length cap) L := ⟨ao, cap, rfl, hA2⟩
  have b1 : Below w.heap.size w (w.alloc (.cells #[.slice ao L.length cap] 22)) := (Below.refl _ _).alloc (Nat.le_refl _) _
  have x1 : (w.alloc (.cells #[.slice ao L.length cap] 22)).heap[w.heap.size]? = some (.cells #[.slice ao L.length cap] 22 (0, 0)) := World.alloc_heap_new w _
  have A1 : AtI (w.alloc (.cells #[.slice ao L.length cap] 22)).heap.size (w.alloc (.cells #[.slice ao L.length cap] 22)) (.slice ao L.length cap) L := by
    have := hA.below (Nat.le_refl _) b1
    exact AtI.below this (by rw [World.size_alloc]; omega) (Below.refl _ _)
  have HC := Lib.hid (paCommon_any (.slice ao L.length cap) L h0 hL _ A1)
  have HM := Lib.hid hm
  have HL := Lib.hid hL
  obtain ⟨m, hmm⟩ : ∃ m, L.length = m := ⟨_, rfl⟩
  have HMM : Hid (L.length = m) := hmm
  clear hm hL h0 hA hA2
  rw [hmm] at b1 x1 A1 HC ⊢
  clear hmm
  go_enter Tryz.func47, Tryz.ntmps47
  go_wp2_with fail
  refine HC.out.mono ?_
  rintro e w2 ⟨rfl, b2⟩
  have hs1 : w.heap.size < (w.alloc (.cells #[.slice ao m cap] 22)).heap.size := by rw [World.size_alloc]; omega
  have B2 : Below w.heap.size w w2 := b1.trans (b2.mono (Nat.le_of_lt hs1))
  have hs2 : w.heap.size < w2.heap.size := Nat.lt_of_lt_of_le hs1 b2.size
  have A2 : AtI w2.heap.size w2 (.slice ao m cap) L := AtI.below (AtI.below A1 (Nat.le_refl _) b2) b2.size (Below.refl _ _)
  have x2 : w2.heap[w.heap.size]? = some (.cells #[.slice ao m cap] 22 (0, 0)) := (b2.block _ hs1).trans x1
  clear b1 b2 A1 x1 hs1 HC
  generalize hN : (commonL L : Int) = N at HM ⊢
  have b3 : Below w2.heap.size w2 (w2.alloc (.cells #[.int .i64 N] 3)) := (Below.refl _ _).alloc (Nat.le_refl _) _
  have x3 : (w2.alloc (.cells #[.int .i64 N] 3)).cell? ⟨w2.heap.size, 0, none⟩ = some (.int .i64 N) := (Lib.cell_of_heap (World.alloc_heap_new _ _) 0).trans rfl
  have y3 : (w2.alloc (.cells #[.int .i64 N] 3)).cell? ⟨w.heap.size, 0, none⟩ = some (.slice ao m cap) := (b3.cell (p := ⟨w.heap.size, 0, none⟩) hs2).trans ((Lib.cell_of_heap x2 0).trans rfl)
  have A3 : AtI w2.heap.size (w2.alloc (.cells #[.int .i64 N] 3)) (.slice ao m cap) L := A2.below (Nat.le_refl _) b3
  have c2 : w2.cell? ⟨w.heap.size, 0, none⟩ = some (.slice ao m cap) := (Lib.cell_of_heap x2 0).trans rfl
  have HS := Lib.hid (paSearch_any m (forkP L N) (.pointer (some ⟨w.heap.size, 0, none⟩)) (.pointer (some ⟨w2.heap.size, 0, none⟩)) (w2.alloc (.cells #[.int .i64 N] 3)) (by rw [← HMM.out]; exact HL.out) (fun W hW i hi => by
    have hz : w2.heap.size ≤ (w2.alloc (.cells #[.int .i64 N] 3)).heap.size := by rw [World.size_alloc]; omega
    have q := AtI.below A3 (n1 := (w2.alloc (.cells #[.int .i64 N] 3)).heap.size) hz hW
    rw [← HMM.out] at q
    refine paFork1_any _ _ ao cap N L _ W q i (by rw [HMM.out]; exact hi) ?_ ?_
    · rw [HMM.out]
      exact (hW.cell (p := ⟨w.heap.size, 0, none⟩) (cellLt y3)).trans y3
    · exact (hW.cell (p := ⟨w2.heap.size, 0, none⟩) (cellLt x3)).trans x3) (fun a b hab hb => HM.out a b hab (by rw [HMM.out]; exact hb)))
  have B3 := B2.trans (b3.mono (Nat.le_of_lt hs2))
  clear HM HL b3 x3 y3 A3 A2 x2
  go_wp2_with fail
  refine HS.out.mono ?_
  rintro e w4 ⟨⟨c, rfl, z1, z2, z3⟩, b4⟩
  have B4 := Lib.hid (B3.trans (b4.mono (by rw [World.size_alloc]; omega)))
  have Z : Hid (ForkAt L c) := by
    show ForkAt L c
    rw [ForkAt, hN, HMM.out]
    exact ⟨z1, z2, z3⟩
  clear z1 z2 z3 b4 HS B3
  go_wp2
  go_ret
  exact ⟨⟨c, rfl, Z.out⟩, B4.out⟩
end Go.Proofs.YtmabigcolabbmaaGreatDoor
namespace Go.Proofs.YtmabigcolabbmaaGreatDoor
open Go Go.RowKit

def RiseI (L : List Itm) : Prop := L.Pairwise fun x y => order x.b y.b < 0
theorem bitI_if (a : Lab) (n : Nat) : bitI a n = if n < 256 then (bit a n : Int) else 0 := by
  unfold bitI
  by_cases h : n < 256
  · rw [if_pos ⟨by omega, by omega⟩, if_pos h, Int.toNat_natCast]
  · rw [if_neg (by omega), if_neg h]
theorem forkP_nat (L : List Itm) (n i : Nat) : forkP L n i = true ↔ n < 256 ∧ bit (L.getD i zeroItm).b n = 1 := by
  unfold forkP
  rw [beq_iff_eq, bitI_if]
  by_cases h : n < 256
  · rw [if_pos h]
    omega
  · rw [if_neg h]
    omega
theorem RiseI.lt {L : List Itm} (h : RiseI L) {i j : Nat} (hij : i < j) (hj : j < L.length) : order (L.getD i zeroItm).b (L.getD j zeroItm).b < 0 := by
  have hi : i < L.length := by omega
  rw [List.getD_eq_getElem?_getD, List.getD_eq_getElem?_getD, List.getElem?_eq_getElem hi, List.getElem?_eq_getElem hj]
  exact List.pairwise_iff_getElem.1 h i j hi hj hij
theorem RiseI.le {L : List Itm} (h : RiseI L) {i j : Nat} (hij : i ≤ j) (hj : j < L.length) : order (L.getD i zeroItm).b (L.getD j zeroItm).b ≤ 0 := by
  by_cases e : i = j
  · subst e
    rw [order_zero.2 rfl]
    exact Int.le_refl _
  · exact Int.le_of_lt (h.lt (by omega) hj)
/-- All of them begin alike. -/
theorem RiseI.same {L : List Itm} (h : RiseI L) {i : Nat} (hi : i < L.length) : commonL L ≤ common (L.getD 0 zeroItm).b (L.getD i zeroItm).b := by
  have := (between_math (h.le (Nat.zero_le i) hi) (h.le (i := i) (j := L.length - 1) (by omega) (by omega))).2
  unfold commonL
  omega
theorem RiseI.bits {L : List Itm} (h : RiseI L) {i j : Nat} (hi : i < L.length) (hj : j < L.length) : commonL L ≤ common (L.getD i zeroItm).b (L.getD j zeroItm).b := by
  have h1 := h.same hi
  have h2 := h.same hj
  have s1 := common_is (L.getD 0 zeroItm).b (L.getD i zeroItm).b
  have s2 := common_is (L.getD 0 zeroItm).b (L.getD j zeroItm).b
  have s3 := common_is (L.getD i zeroItm).b (L.getD j zeroItm).b
  by_cases hc : commonL L ≤ common (L.getD i zeroItm).b (L.getD j zeroItm).b
  · exact hc
  · exfalso
    have hlt : common (L.getD i zeroItm).b (L.getD j zeroItm).b < 256 := by have := s1.le; omega
    have e1 := s1.same (common (L.getD i zeroItm).b (L.getD j zeroItm).b) (by omega)
    have e2 := s2.same (common (L.getD i zeroItm).b (L.getD j zeroItm).b) (by omega)
    exact s3.other hlt (e1.symm.trans e2)
theorem fork_mono {L : List Itm} (h : RiseI L) : ∀ a b, a ≤ b → b < L.length → forkP L (commonL L) a = true → forkP L (commonL L) b = true := by
  intro a b hab hb ha
  by_cases e : a = b
  · subst e
    exact ha
  · obtain ⟨hn, h1⟩ := (forkP_nat _ _ _).1 ha
    refine (forkP_nat _ _ _).2 ⟨hn, ?_⟩
    have hs := h.bits (i := a) (j := b) (by omega) hb
    have s3 := common_is (L.getD a zeroItm).b (L.getD b zeroItm).b
    rcases order_le.1 (h.le hab hb) with q | ⟨k, hk, e1, k1, k2⟩
    · rw [← q]
      exact h1
    · by_cases hkn : k = commonL L
      · rw [hkn] at k1
        omega
      · rw [← s3.same (commonL L) (by omega)]
        exact h1
theorem fork_ends {L : List Itm} (h : RiseI L) (h2 : 2 ≤ L.length) : commonL L < 256 ∧ forkP L (commonL L) 0 = false ∧ forkP L (commonL L) (L.length - 1) = true := by
  have hlt := h.lt (i := 0) (j := L.length - 1) (by omega) (by omega)
  rcases order_le.1 (Int.le_of_lt hlt) with q | ⟨k, hk, e1, k1, k2⟩
  · rw [order_zero.2 q] at hlt
    omega
  · have e : commonL L = k := e1
    refine ⟨by omega, ?_, (forkP_nat _ _ _).2 ⟨by omega, by rw [e]; exact k2⟩⟩
    cases hf : forkP L (commonL L) 0 with
    | false => rfl
    | true =>
      have := ((forkP_nat _ _ _).1 hf).2
      rw [e, k1] at this
      cases this
theorem ForkAt.inside {L : List Itm} {c : Nat} (hc : ForkAt L c) (h : RiseI L) (h2 : 2 ≤ L.length) : 0 < c ∧ c < L.length := by
  obtain ⟨h3, h4, h5⟩ := fork_ends h h2
  constructor
  · refine Nat.pos_of_ne_zero fun e => ?_
    have := hc.2.2 0 (by omega) (by omega)
    rw [h4] at this
    cases this
  · by_cases hl : c < L.length
    · exact hl
    · have := hc.2.1 (L.length - 1) (by omega)
      rw [h5] at this
      cases this
/-- Whose neighbours are right rises. -/
def forkC (L : List Itm) : Nat := (L.takeWhile fun x => !(bitI x.b (commonL L) == 1)).length
theorem ForkAt.eq {L : List Itm} {c : Nat} (hc : ForkAt L c) : c = forkC L := by
  unfold forkC
  have hg : ∀ t x, L[t]? = some x → L.getD t zeroItm = x := fun t x ht => by rw [List.getD_eq_getElem?_getD, ht]; rfl
  have := (takeWhile_at (p := fun x : Itm => !(bitI x.b (commonL L) == 1)) hc.1 (fun t x ht hx => by
    have := hc.2.1 t ht
    unfold forkP at this
    rw [hg t x hx] at this
    simp [this]) (fun x hx => by
    have hl : c < L.length := by
      by_cases hl : c < L.length
      · exact hl
      · rw [List.getElem?_eq_none (by omega)] at hx
        cases hx
    have := hc.2.2 c (Nat.le_refl _) hl
    unfold forkP at this
    rw [hg c x hx] at this
    simp [this])).1
  rw [this, List.length_take]
  have := hc.1
  omega
/-- The item of the top of a tree. -/
def wholeF : Nat → List Itm → Itm
  | 0, L => L.getD 0 zeroItm
  | f + 1, L => if L.length = 1 then L.getD 0 zeroItm else innerI (wholeF f (L.take (forkC L))) (wholeF f (L.drop (forkC L)))
def wholeL (L : List Itm) : Itm := wholeF L.length L
end Go.Proofs.YtmabigcolabbmaaGreatDoor
