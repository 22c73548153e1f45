/- What Bit, Common and Order answer, the program's and the document's. Conditions: none. -/
import Derived.Test.YtnffmgpnhlcakaaDoorLabRun
import Derived.Test.YtnffmgpnhlcakaaDoorMath
import Derived.Test.YtnffmgpnhlcakaaDoorShelf
import Derived.Outline
import Derived.BigQuiet
import Derived.Deep.QuietTactic
import Derived.Deep.RegionHeld3
import Derived.Lib.Hide
import Derived.Lib.BytesEntry
namespace Go.Proofs.YtnffmgpnhlcakaaDoor
open Go Go.RowKit

theorem row_ret_lab {fn : Func} {p : Tmp} (h : fn.results = #[.cell p 29]) {R : Ending → World → Prop} {a : Act} {w : World} {b : Nat} {l : Lab} (hp : a.tmps.getD p undef = .pointer (some ⟨b, 0, none⟩)) (hd : a.defers = [])
    (hr : rowAt w b = some (cellsL l)) (hR : R (.returned (.agg (cellsL l))) w) : bodyPost Tryd.prog fn R .ret a w :=
  bodyPost_ret (results_row h a.tmps w b _ _ hp hr Tryd.underlying29 rfl (by rw [size_cellsL]; kernel_rfl)) hd hR
theorem row_ret_pre {fn : Func} {p : Tmp} (h : fn.results = #[.cell p 41]) {R : Ending → World → Prop} {a : Act} {w : World} {b : Nat} {n : Int} {l : Lab} (hp : a.tmps.getD p undef = .pointer (some ⟨b, 0, none⟩)) (hd : a.defers = [])
    (hr : rowAt w b = some (cellsP n l)) (hR : R (.returned (.agg (cellsP n l))) w) : bodyPost Tryd.prog fn R .ret a w :=
  bodyPost_ret (results_row h a.tmps w b _ _ hp hr Tryd.underlying41 rfl (by rw [size_cellsP]; kernel_rfl)) hd hR


theorem below_drewN {B : Nat} {a w : World} (h : Below B a w) (n : Nat) : Below B a (w.drewN n) := ⟨h.os, h.tape, h.output, h.size, h.block⟩
theorem ret_int {k : IntKind} {a b : Int} (h : a = b) : Ending.returned (.int k a) = .returned (.int k b) := by rw [h]

def bitI (a : Lab) (i : Int) : Int := if 0 ≤ i ∧ i < 256 then (bit a i.toNat : Int) else 0

theorem half_walk (x k : Nat) : ((x : Int) / 2 ^ k) / 2 = (x : Int) / 2 ^ (k + 1) := by
  rw [div_pow_cast, div_pow_cast, Nat.pow_succ, ← Nat.div_div_eq_div_mul]
  rfl

theorem rBit_any (a : Lab) (i : Int) (w : World) :
    Calls Tryd.prog 72 #[.agg (cellsL a), .int .i64 i] w fun e w' => e = .returned (.int .i64 (bitI a i)) ∧ Below w.heap.size w w' := by
  by_cases h : 0 ≤ i ∧ i < 256
  · obtain ⟨h0, h1⟩ := h
    have hc := get_cellsL a (i / 8).toNat (by omega)
    have hx := (a.get (i / 8).toNat).toNat_lt
    go_enter Tryd.func72, Tryd.ntmps72
    generalize hX : (a.get (i / 8).toNat).toNat = X at *
    have HX := Lib.hid hX
    clear hX
    go_wp2
    go_loop [5, 6] (fun x k => ∃ r q : Nat, i % 8 + r ≤ 7 ∧ q ≤ 255 ∧ Hid (q = X / 2 ^ r) ∧ k = .int .i64 (i % 8 + r) ∧ x = .int .i64 (q : Int)) (fun _ k => (7 - intOf k).toNat)
    case atStart => exact ⟨0, X, by omega, by omega, Lib.hid (by simp), by simp, rfl⟩
    case round =>
      obtain ⟨r, q, hr, hq, HQ, rfl, rfl⟩ := hrel
      by_cases hlt : i % 8 + r < 7
      · go_wp2
        go_round
        case rel => exact ⟨r + 1, q / 2, by omega, by omega, Lib.hid (by rw [HQ.out, Nat.pow_succ, ← Nat.div_div_eq_div_mul]), by go_num, by go_num⟩
        case measure => simp [intOf]; omega
      · go_wp2
        go_ret
        exact ⟨ret_int (by rw [bitI, if_pos ⟨h0, h1⟩, bit, bitB, show i.toNat / 8 = (i / 8).toNat by omega, HX.out, show 7 - i.toNat % 8 = r by omega, ← HQ.out]; rfl), (Below.refl _ _).alloc (Nat.le_refl _) _⟩
  · by_cases h0 : i < 0
    · go_enter Tryd.func72, Tryd.ntmps72
      go_wp2
      go_ret
      exact ⟨ret_int (by rw [bitI, if_neg h]), (Below.refl _ _).alloc (Nat.le_refl _) _⟩
    · have h1 : 256 ≤ i := by omega
      have h2 : 0 ≤ i := by omega
      go_enter Tryd.func72, Tryd.ntmps72
      go_wp2
      go_ret
      exact ⟨ret_int (by rw [bitI, if_neg h]), (Below.refl _ _).alloc (Nat.le_refl _) _⟩

theorem Common_any (a b : Lab) (w : World) :
    Calls Tryd.prog 63 #[.agg (cellsL a), .agg (cellsL b)] w fun e w' => e = .returned (.int .i64 (common a b)) ∧ Below w.heap.size w w' := by
  go_enter Tryd.func63, Tryd.ntmps63
  go_wp2
  go_loopw [7] (fun k wr => ∃ i n : Nat, i ≤ 32 ∧ k = .int .i64 i ∧ (∀ j, j < i → a.get j = b.get j) ∧ wr = ((w.alloc (.cells (cellsL a) 29)).alloc (.cells (cellsL b) 29)).drewN n) (fun k _ => (32 - intOf k).toNat)
  case atStart => exact ⟨0, 0, by omega, rfl, by omega, rfl⟩
  case round =>
    obtain ⟨i, n, hi, rfl, hs, rfl⟩ := hrel
    by_cases hlt : i < 32
    · have hx := (a.get i).toNat_lt
      have hy := (b.get i).toNat_lt
      have hxor := u8_xor_nat (a.get i).toNat (b.get i).toNat hx hy
      have hz : (a.get i).toNat ^^^ (b.get i).toNat < 2 ^ 8 := Nat.xor_lt_two_pow hx hy
      have HC := fun hne => Lib.hid (common_at hlt hs hne)
      have HE := Lib.hid (xor_ne (x := a.get i) (y := b.get i))
      have HS := Lib.hid hs
      clear hs
      generalize (a.get i).toNat ^^^ (b.get i).toNat = z at *
      by_cases h0 : z = 0
      · have hb : ((z : Int) != 0) = false := by rw [h0]; rfl
        have HE2 := Lib.hid (HE.out.1 h0)
        clear HC HE h0
        go_wp2
        go_quiet (fail)
        go_wp2
        go_roundw
        case rel => exact ⟨i + 1, _, by omega, by go_num, fun j hj => by
            by_cases e : j = i
            · subst e; exact HE2.out
            · exact HS.out j (by omega), rfl⟩
        case measure => simp [intOf]; omega
      · have hb : ((z : Int) != 0) = true := by simpa using h0
        have HC2 := HC h0
        have hl8 := (lead z h0 hz).1
        clear HC HE HS
        go_wp2
        go_quiet (fail)
        go_wp2_with fail
        refine (Tryd.bits_LeadingZeros8 _ _ (by omega) (by omega)).mono ?_
        rintro e w' ⟨rfl, rfl⟩
        go_wp2
        go_ret
        exact ⟨ret_int (by rw [HC2.out]; omega), below_drewN (((Below.refl _ _).alloc (Nat.le_refl _) _).alloc (by simp) _) _⟩
    · have hi' : i = 32 := by omega
      subst hi'
      have HS := Lib.hid hs
      clear hs
      go_wp2
      go_ret
      refine ⟨ret_int ?_, below_drewN (((Below.refl _ _).alloc (Nat.le_refl _) _).alloc (by simp) _) _⟩
      rw [common_256.2 (Lab.ext' HS.out)]
      rfl

theorem run_bytes_row (w : World) (b1 : Nat) (x : Lab) (h1 : rowAt w b1 = some (cellsL x)) (c : Nat) : (Extern.Bytes.bytesOf (.slice (some ⟨b1, 0, none⟩) 32 c)).run Tryd.prog w = .ok ⟨x.l.toArray⟩ w := by
  have hl := Lib.run_loadBytesX (P := Tryd.prog) w (x.l.map fun b => (b.toNat : Int)) ⟨b1, 0, none⟩ .empty (fun j v hj => by
    have hjl : j < x.l.length := by simpa using (List.getElem?_eq_some_iff.1 hj).1
    have e : (⟨b1, 0, none⟩ : Addr).add j = ⟨b1, j, none⟩ := by unfold Addr.add; split <;> simp_all
    have := x.h
    rw [e, cell_of_rowAt h1, get_cellsL x j (by omega)]
    simp only [List.getElem?_map, Option.map_eq_some_iff] at hj
    obtain ⟨u, hu, rfl⟩ := hj
    simp [Lab.get, List.getD, hu])
  have e : Lib.bytesOf (x.l.map fun b => (b.toNat : Int)) = x.l := by
    have hid : ((fun n : Int => UInt8.ofNat n.toNat) ∘ fun b : UInt8 => (b.toNat : Int)) = id := by
      funext b
      simp
    simp [Lib.bytesOf, hid]
  rw [e] at hl
  simp only [List.length_map, x.h] at hl
  simp only [Extern.Bytes.bytesOf]
  rw [hl]
  simp
theorem run_compare_rows (w : World) (b1 b2 : Nat) (x y : Lab) (h1 : rowAt w b1 = some (cellsL x)) (h2 : rowAt w b2 = some (cellsL y)) (c d : Nat) :
    (Extern.BytealgCompare.compare #[.slice (some ⟨b1, 0, none⟩) 32 c, .slice (some ⟨b2, 0, none⟩) 32 d]).run Tryd.prog w = .ok (.int .i64 (order x y)) w := by
  have l1 := run_bytes_row w b1 x h1 c
  have l2 := run_bytes_row w b2 y h2 d
  change Sem.run Tryd.prog (do pure (goInt (Extern.BytealgCompare.cmp (← Extern.Bytes.bytesOf (.slice (some ⟨b1, 0, none⟩) 32 c)) (← Extern.Bytes.bytesOf (.slice (some ⟨b2, 0, none⟩) 32 d))))) w = _
  simp only [Sem.run_bind, l1, l2, Result.andThen_ok, Sem.run_pure, Lib.cmp_eq, compare_order]
  rfl
set_option maxRecDepth 100000 in
theorem Compare_any (w : World) (b1 b2 : Nat) (x y : Lab) (h1 : rowAt w b1 = some (cellsL x)) (h2 : rowAt w b2 = some (cellsL y)) (c d : Nat) :
    Calls Tryd.prog 92 #[.slice (some ⟨b1, 0, none⟩) 32 c, .slice (some ⟨b2, 0, none⟩) 32 d] w fun e w' => e = .returned (.int .i64 (order x y)) ∧ w' = w := by
  have H1 := Lib.hid h1
  have H2 := Lib.hid h2
  clear h1 h2
  go_enter Tryd.func92, Tryd.ntmps92
  go_wp2_with fail
  rw [run_callFunc_extern Tryd.func94 (by kernel_rfl) (by kernel_rfl) (by kernel_rfl) (e := Extern.BytealgCompare.compare) (by kernel_rfl), run_compare_rows w b1 b2 x y H1.out H2.out]
  simp only [Result.andThen]
  rw [Oper.upon_value]
  go_wp2
  go_ret
  exact ⟨rfl, rfl⟩
set_option maxRecDepth 100000 in
theorem Order_any (a b : Lab) (w : World) :
    Calls Tryd.prog 85 #[.agg (cellsL a), .agg (cellsL b)] w fun e w' => e = .returned (.int .i64 (order a b)) ∧ Below w.heap.size w w' := by
  go_enter Tryd.func85, Tryd.ntmps85
  go_wp2
  have r1 : rowAt ((w.alloc (.cells (cellsL a) 29)).alloc (.cells (cellsL b) 29)) w.heap.size = some (cellsL a) := by simp [rowAt_alloc_past, rowAt_alloc_at]
  have r2 : rowAt ((w.alloc (.cells (cellsL a) 29)).alloc (.cells (cellsL b) 29)) (w.heap.size + 1) = some (cellsL b) := by simp [rowAt_alloc_at]
  have R1 := Lib.hid r1
  have R2 := Lib.hid r2
  clear r1 r2
  go_quiet ((go_at_call 92; exact Calls.quiet_of_same (Compare_any _ _ _ a b (by exact R1.out) (by exact R2.out) _ _)))
  go_wp2
  go_ret
  exact ⟨rfl, below_drewN (((Below.refl _ _).alloc (Nat.le_refl _) _).alloc (by simp) _) _⟩
end Go.Proofs.YtnffmgpnhlcakaaDoor
