/- Words of 32 bits, turned and put together. Conditions: none. -/
import Derived.Test.YtnffmgpnhlcakaaDoorStrs
import Derived.Test.YtnffmgpnhlcakaaDoorRows
import Derived.Laws.BitsAllLaws
import Derived.WalkLawsBesides
namespace Go.Proofs.YtnffmgpnhlcakaaDoor
open Go Go.RowKit

/-- A word as it lies in a cell. -/
abbrev wv (x : UInt32) : Int := (x.toNat : Int)
theorem w_lt (x : UInt32) : wv x < 4294967296 := by have := x.toNat_lt; show (x.toNat : Int) < _; omega
theorem w_ge (x : UInt32) : 0 ≤ wv x := Int.natCast_nonneg _
theorem w_xor (x y : UInt32) : bits .xor .u32 (wv x) (wv y) = wv (x ^^^ y) := by
  show bits .xor .u32 (x.toNat : Int) (y.toNat : Int) = ((x ^^^ y).toNat : Int)
  rw [u32_xor_nat _ _ x.toNat_lt y.toNat_lt, UInt32.toNat_xor]
theorem w_and (x y : UInt32) : bits .and .u32 (wv x) (wv y) = wv (x &&& y) := by
  show bits .and .u32 (x.toNat : Int) (y.toNat : Int) = ((x &&& y).toNat : Int)
  rw [u32_and_nat _ _ x.toNat_lt y.toNat_lt, UInt32.toNat_and]
theorem w_or (x y : UInt32) : bits .or .u32 (wv x) (wv y) = wv (x ||| y) := by
  show bits .or .u32 (x.toNat : Int) (y.toNat : Int) = ((x ||| y).toNat : Int)
  rw [u32_or_nat _ _ x.toNat_lt y.toNat_lt, UInt32.toNat_or]
theorem w_add (x y : UInt32) : IntKind.u32.wrap (wv x + wv y) = wv (x + y) := by
  show (wv x + wv y) % 2 ^ IntKind.u32.bits = ((x + y).toNat : Int)
  rw [UInt32.toNat_add, show (2 : Int) ^ IntKind.u32.bits = 4294967296 from rfl]
  show ((x.toNat : Int) + (y.toNat : Int)) % 4294967296 = _
  omega
/-- Turned to the right. -/
def rotr (x : UInt32) (n : Nat) : UInt32 := (x <<< UInt32.ofNat (32 - n)) ||| (x >>> UInt32.ofNat n)

theorem w_shl (x : UInt32) (k : Nat) (hk : k < 32) : wv x * (2 ^ k : Nat) % 4294967296 = wv (x <<< UInt32.ofNat k) := by
  show ((x.toNat : Int) * (2 ^ k : Nat)) % 4294967296 = ((x <<< UInt32.ofNat k).toNat : Int)
  rw [UInt32.toNat_shiftLeft, UInt32.toNat_ofNat', Nat.mod_eq_of_lt (show k < 2 ^ 32 by omega), Nat.mod_eq_of_lt hk, Nat.shiftLeft_eq]
  omega
theorem w_shr (x : UInt32) (k : Nat) (hk : k < 32) : wv x / (2 ^ k : Nat) = wv (x >>> UInt32.ofNat k) := by
  show (x.toNat : Int) / (2 ^ k : Nat) = ((x >>> UInt32.ofNat k).toNat : Int)
  rw [UInt32.toNat_shiftRight, UInt32.toNat_ofNat', Nat.mod_eq_of_lt (show k < 2 ^ 32 by omega), Nat.mod_eq_of_lt hk, Nat.shiftRight_eq_div_pow]
  rfl
theorem w_rotr (x : UInt32) (n : Nat) (h0 : 0 < n) (h : n < 32) : bits .or .u32 (wv x * (2 ^ (32 - n) : Nat) % 4294967296) (wv x / (2 ^ n : Nat)) = wv (rotr x n) := by
  rw [w_shl x (32 - n) (by omega), w_shr x n h, w_or]
  rfl
set_option maxRecDepth 100000 in
theorem turn_2 (x : UInt32) (w : World) : Calls Tryd.prog 88 #[.int .u32 (wv x), .int .i64 2] w fun e w' => e = .returned (.int .u32 (wv (rotr x 2))) ∧ w' = w := by
  have HR : Hid (Calls Tryd.prog 93 #[.int .u32 (wv x), .int .i64 (-2)] w fun e w' => e = .returned (.int .u32 (wv (rotr x 2))) ∧ w' = w) := Lib.hid (by
    have h0 := w_ge x
    have h1 := w_lt x
    have HW := Lib.hid (w_rotr x 2 (by decide) (by decide))
    rw [show ((2 ^ (32 - 2) : Nat) : Int) = 1073741824 from rfl, show ((2 ^ 2 : Nat) : Int) = 4 from rfl] at HW
    have HV : Hid (wv (rotr x 2) = wv (rotr x 2)) := Lib.hid rfl
    generalize wv (rotr x 2) = v at *
    generalize wv x = z at *
    have hand : bits .and .u64 (IntKind.u64.wrap (-2)) 31 = 30 := by decide
    go_enter Tryd.func93, Tryd.ntmps93
    go_wp2_with fail
    go_ret
    exact ⟨congrArg (fun q => Ending.returned (Value.int .u32 q)) HW.out, rfl⟩)
  have h0 := w_ge x
  have h1 := w_lt x
  generalize wv (rotr x 2) = v at *
  generalize wv x = z at *
  go_enter Tryd.func88, Tryd.ntmps88
  go_wp2_with fail
  refine HR.out.mono ?_
  rintro e w1 ⟨rfl, rfl⟩
  go_wp2_with fail
  go_ret
  exact ⟨rfl, rfl⟩
set_option maxRecDepth 100000 in
theorem turn_6 (x : UInt32) (w : World) : Calls Tryd.prog 88 #[.int .u32 (wv x), .int .i64 6] w fun e w' => e = .returned (.int .u32 (wv (rotr x 6))) ∧ w' = w := by
  have HR : Hid (Calls Tryd.prog 93 #[.int .u32 (wv x), .int .i64 (-6)] w fun e w' => e = .returned (.int .u32 (wv (rotr x 6))) ∧ w' = w) := Lib.hid (by
    have h0 := w_ge x
    have h1 := w_lt x
    have HW := Lib.hid (w_rotr x 6 (by decide) (by decide))
    rw [show ((2 ^ (32 - 6) : Nat) : Int) = 67108864 from rfl, show ((2 ^ 6 : Nat) : Int) = 64 from rfl] at HW
    have HV : Hid (wv (rotr x 6) = wv (rotr x 6)) := Lib.hid rfl
    generalize wv (rotr x 6) = v at *
    generalize wv x = z at *
    have hand : bits .and .u64 (IntKind.u64.wrap (-6)) 31 = 26 := by decide
    go_enter Tryd.func93, Tryd.ntmps93
    go_wp2_with fail
    go_ret
    exact ⟨congrArg (fun q => Ending.returned (Value.int .u32 q)) HW.out, rfl⟩)
  have h0 := w_ge x
  have h1 := w_lt x
  generalize wv (rotr x 6) = v at *
  generalize wv x = z at *
  go_enter Tryd.func88, Tryd.ntmps88
  go_wp2_with fail
  refine HR.out.mono ?_
  rintro e w1 ⟨rfl, rfl⟩
  go_wp2_with fail
  go_ret
  exact ⟨rfl, rfl⟩
set_option maxRecDepth 100000 in
theorem turn_7 (x : UInt32) (w : World) : Calls Tryd.prog 88 #[.int .u32 (wv x), .int .i64 7] w fun e w' => e = .returned (.int .u32 (wv (rotr x 7))) ∧ w' = w := by
  have HR : Hid (Calls Tryd.prog 93 #[.int .u32 (wv x), .int .i64 (-7)] w fun e w' => e = .returned (.int .u32 (wv (rotr x 7))) ∧ w' = w) := Lib.hid (by
    have h0 := w_ge x
    have h1 := w_lt x
    have HW := Lib.hid (w_rotr x 7 (by decide) (by decide))
    rw [show ((2 ^ (32 - 7) : Nat) : Int) = 33554432 from rfl, show ((2 ^ 7 : Nat) : Int) = 128 from rfl] at HW
    have HV : Hid (wv (rotr x 7) = wv (rotr x 7)) := Lib.hid rfl
    generalize wv (rotr x 7) = v at *
    generalize wv x = z at *
    have hand : bits .and .u64 (IntKind.u64.wrap (-7)) 31 = 25 := by decide
    go_enter Tryd.func93, Tryd.ntmps93
    go_wp2_with fail
    go_ret
    exact ⟨congrArg (fun q => Ending.returned (Value.int .u32 q)) HW.out, rfl⟩)
  have h0 := w_ge x
  have h1 := w_lt x
  generalize wv (rotr x 7) = v at *
  generalize wv x = z at *
  go_enter Tryd.func88, Tryd.ntmps88
  go_wp2_with fail
  refine HR.out.mono ?_
  rintro e w1 ⟨rfl, rfl⟩
  go_wp2_with fail
  go_ret
  exact ⟨rfl, rfl⟩
set_option maxRecDepth 100000 in
theorem turn_11 (x : UInt32) (w : World) : Calls Tryd.prog 88 #[.int .u32 (wv x), .int .i64 11] w fun e w' => e = .returned (.int .u32 (wv (rotr x 11))) ∧ w' = w := by
  have HR : Hid (Calls Tryd.prog 93 #[.int .u32 (wv x), .int .i64 (-11)] w fun e w' => e = .returned (.int .u32 (wv (rotr x 11))) ∧ w' = w) := Lib.hid (by
    have h0 := w_ge x
    have h1 := w_lt x
    have HW := Lib.hid (w_rotr x 11 (by decide) (by decide))
    rw [show ((2 ^ (32 - 11) : Nat) : Int) = 2097152 from rfl, show ((2 ^ 11 : Nat) : Int) = 2048 from rfl] at HW
    have HV : Hid (wv (rotr x 11) = wv (rotr x 11)) := Lib.hid rfl
    generalize wv (rotr x 11) = v at *
    generalize wv x = z at *
    have hand : bits .and .u64 (IntKind.u64.wrap (-11)) 31 = 21 := by decide
    go_enter Tryd.func93, Tryd.ntmps93
    go_wp2_with fail
    go_ret
    exact ⟨congrArg (fun q => Ending.returned (Value.int .u32 q)) HW.out, rfl⟩)
  have h0 := w_ge x
  have h1 := w_lt x
  generalize wv (rotr x 11) = v at *
  generalize wv x = z at *
  go_enter Tryd.func88, Tryd.ntmps88
  go_wp2_with fail
  refine HR.out.mono ?_
  rintro e w1 ⟨rfl, rfl⟩
  go_wp2_with fail
  go_ret
  exact ⟨rfl, rfl⟩
set_option maxRecDepth 100000 in
theorem turn_13 (x : UInt32) (w : World) : Calls Tryd.prog 88 #[.int .u32 (wv x), .int .i64 13] w fun e w' => e = .returned (.int .u32 (wv (rotr x 13))) ∧ w' = w := by
  have HR : Hid (Calls Tryd.prog 93 #[.int .u32 (wv x), .int .i64 (-13)] w fun e w' => e = .returned (.int .u32 (wv (rotr x 13))) ∧ w' = w) := Lib.hid (by
    have h0 := w_ge x
    have h1 := w_lt x
    have HW := Lib.hid (w_rotr x 13 (by decide) (by decide))
    rw [show ((2 ^ (32 - 13) : Nat) : Int) = 524288 from rfl, show ((2 ^ 13 : Nat) : Int) = 8192 from rfl] at HW
    have HV : Hid (wv (rotr x 13) = wv (rotr x 13)) := Lib.hid rfl
    generalize wv (rotr x 13) = v at *
    generalize wv x = z at *
    have hand : bits .and .u64 (IntKind.u64.wrap (-13)) 31 = 19 := by decide
    go_enter Tryd.func93, Tryd.ntmps93
    go_wp2_with fail
    go_ret
    exact ⟨congrArg (fun q => Ending.returned (Value.int .u32 q)) HW.out, rfl⟩)
  have h0 := w_ge x
  have h1 := w_lt x
  generalize wv (rotr x 13) = v at *
  generalize wv x = z at *
  go_enter Tryd.func88, Tryd.ntmps88
  go_wp2_with fail
  refine HR.out.mono ?_
  rintro e w1 ⟨rfl, rfl⟩
  go_wp2_with fail
  go_ret
  exact ⟨rfl, rfl⟩
set_option maxRecDepth 100000 in
theorem turn_17 (x : UInt32) (w : World) : Calls Tryd.prog 88 #[.int .u32 (wv x), .int .i64 17] w fun e w' => e = .returned (.int .u32 (wv (rotr x 17))) ∧ w' = w := by
  have HR : Hid (Calls Tryd.prog 93 #[.int .u32 (wv x), .int .i64 (-17)] w fun e w' => e = .returned (.int .u32 (wv (rotr x 17))) ∧ w' = w) := Lib.hid (by
    have h0 := w_ge x
    have h1 := w_lt x
    have HW := Lib.hid (w_rotr x 17 (by decide) (by decide))
    rw [show ((2 ^ (32 - 17) : Nat) : Int) = 32768 from rfl, show ((2 ^ 17 : Nat) : Int) = 131072 from rfl] at HW
    have HV : Hid (wv (rotr x 17) = wv (rotr x 17)) := Lib.hid rfl
    generalize wv (rotr x 17) = v at *
    generalize wv x = z at *
    have hand : bits .and .u64 (IntKind.u64.wrap (-17)) 31 = 15 := by decide
    go_enter Tryd.func93, Tryd.ntmps93
    go_wp2_with fail
    go_ret
    exact ⟨congrArg (fun q => Ending.returned (Value.int .u32 q)) HW.out, rfl⟩)
  have h0 := w_ge x
  have h1 := w_lt x
  generalize wv (rotr x 17) = v at *
  generalize wv x = z at *
  go_enter Tryd.func88, Tryd.ntmps88
  go_wp2_with fail
  refine HR.out.mono ?_
  rintro e w1 ⟨rfl, rfl⟩
  go_wp2_with fail
  go_ret
  exact ⟨rfl, rfl⟩
set_option maxRecDepth 100000 in
theorem turn_18 (x : UInt32) (w : World) : Calls Tryd.prog 88 #[.int .u32 (wv x), .int .i64 18] w fun e w' => e = .returned (.int .u32 (wv (rotr x 18))) ∧ w' = w := by
  have HR : Hid (Calls Tryd.prog 93 #[.int .u32 (wv x), .int .i64 (-18)] w fun e w' => e = .returned (.int .u32 (wv (rotr x 18))) ∧ w' = w) := Lib.hid (by
    have h0 := w_ge x
    have h1 := w_lt x
    have HW := Lib.hid (w_rotr x 18 (by decide) (by decide))
    rw [show ((2 ^ (32 - 18) : Nat) : Int) = 16384 from rfl, show ((2 ^ 18 : Nat) : Int) = 262144 from rfl] at HW
    have HV : Hid (wv (rotr x 18) = wv (rotr x 18)) := Lib.hid rfl
    generalize wv (rotr x 18) = v at *
    generalize wv x = z at *
    have hand : bits .and .u64 (IntKind.u64.wrap (-18)) 31 = 14 := by decide
    go_enter Tryd.func93, Tryd.ntmps93
    go_wp2_with fail
    go_ret
    exact ⟨congrArg (fun q => Ending.returned (Value.int .u32 q)) HW.out, rfl⟩)
  have h0 := w_ge x
  have h1 := w_lt x
  generalize wv (rotr x 18) = v at *
  generalize wv x = z at *
  go_enter Tryd.func88, Tryd.ntmps88
  go_wp2_with fail
  refine HR.out.mono ?_
  rintro e w1 ⟨rfl, rfl⟩
  go_wp2_with fail
  go_ret
  exact ⟨rfl, rfl⟩
set_option maxRecDepth 100000 in
theorem turn_19 (x : UInt32) (w : World) : Calls Tryd.prog 88 #[.int .u32 (wv x), .int .i64 19] w fun e w' => e = .returned (.int .u32 (wv (rotr x 19))) ∧ w' = w := by
  have HR : Hid (Calls Tryd.prog 93 #[.int .u32 (wv x), .int .i64 (-19)] w fun e w' => e = .returned (.int .u32 (wv (rotr x 19))) ∧ w' = w) := Lib.hid (by
    have h0 := w_ge x
    have h1 := w_lt x
    have HW := Lib.hid (w_rotr x 19 (by decide) (by decide))
    rw [show ((2 ^ (32 - 19) : Nat) : Int) = 8192 from rfl, show ((2 ^ 19 : Nat) : Int) = 524288 from rfl] at HW
    have HV : Hid (wv (rotr x 19) = wv (rotr x 19)) := Lib.hid rfl
    generalize wv (rotr x 19) = v at *
    generalize wv x = z at *
    have hand : bits .and .u64 (IntKind.u64.wrap (-19)) 31 = 13 := by decide
    go_enter Tryd.func93, Tryd.ntmps93
    go_wp2_with fail
    go_ret
    exact ⟨congrArg (fun q => Ending.returned (Value.int .u32 q)) HW.out, rfl⟩)
  have h0 := w_ge x
  have h1 := w_lt x
  generalize wv (rotr x 19) = v at *
  generalize wv x = z at *
  go_enter Tryd.func88, Tryd.ntmps88
  go_wp2_with fail
  refine HR.out.mono ?_
  rintro e w1 ⟨rfl, rfl⟩
  go_wp2_with fail
  go_ret
  exact ⟨rfl, rfl⟩
set_option maxRecDepth 100000 in
theorem turn_22 (x : UInt32) (w : World) : Calls Tryd.prog 88 #[.int .u32 (wv x), .int .i64 22] w fun e w' => e = .returned (.int .u32 (wv (rotr x 22))) ∧ w' = w := by
  have HR : Hid (Calls Tryd.prog 93 #[.int .u32 (wv x), .int .i64 (-22)] w fun e w' => e = .returned (.int .u32 (wv (rotr x 22))) ∧ w' = w) := Lib.hid (by
    have h0 := w_ge x
    have h1 := w_lt x
    have HW := Lib.hid (w_rotr x 22 (by decide) (by decide))
    rw [show ((2 ^ (32 - 22) : Nat) : Int) = 1024 from rfl, show ((2 ^ 22 : Nat) : Int) = 4194304 from rfl] at HW
    have HV : Hid (wv (rotr x 22) = wv (rotr x 22)) := Lib.hid rfl
    generalize wv (rotr x 22) = v at *
    generalize wv x = z at *
    have hand : bits .and .u64 (IntKind.u64.wrap (-22)) 31 = 10 := by decide
    go_enter Tryd.func93, Tryd.ntmps93
    go_wp2_with fail
    go_ret
    exact ⟨congrArg (fun q => Ending.returned (Value.int .u32 q)) HW.out, rfl⟩)
  have h0 := w_ge x
  have h1 := w_lt x
  generalize wv (rotr x 22) = v at *
  generalize wv x = z at *
  go_enter Tryd.func88, Tryd.ntmps88
  go_wp2_with fail
  refine HR.out.mono ?_
  rintro e w1 ⟨rfl, rfl⟩
  go_wp2_with fail
  go_ret
  exact ⟨rfl, rfl⟩
set_option maxRecDepth 100000 in
theorem turn_25 (x : UInt32) (w : World) : Calls Tryd.prog 88 #[.int .u32 (wv x), .int .i64 25] w fun e w' => e = .returned (.int .u32 (wv (rotr x 25))) ∧ w' = w := by
  have HR : Hid (Calls Tryd.prog 93 #[.int .u32 (wv x), .int .i64 (-25)] w fun e w' => e = .returned (.int .u32 (wv (rotr x 25))) ∧ w' = w) := Lib.hid (by
    have h0 := w_ge x
    have h1 := w_lt x
    have HW := Lib.hid (w_rotr x 25 (by decide) (by decide))
    rw [show ((2 ^ (32 - 25) : Nat) : Int) = 128 from rfl, show ((2 ^ 25 : Nat) : Int) = 33554432 from rfl] at HW
    have HV : Hid (wv (rotr x 25) = wv (rotr x 25)) := Lib.hid rfl
    generalize wv (rotr x 25) = v at *
    generalize wv x = z at *
    have hand : bits .and .u64 (IntKind.u64.wrap (-25)) 31 = 7 := by decide
    go_enter Tryd.func93, Tryd.ntmps93
    go_wp2_with fail
    go_ret
    exact ⟨congrArg (fun q => Ending.returned (Value.int .u32 q)) HW.out, rfl⟩)
  have h0 := w_ge x
  have h1 := w_lt x
  generalize wv (rotr x 25) = v at *
  generalize wv x = z at *
  go_enter Tryd.func88, Tryd.ntmps88
  go_wp2_with fail
  refine HR.out.mono ?_
  rintro e w1 ⟨rfl, rfl⟩
  go_wp2_with fail
  go_ret
  exact ⟨rfl, rfl⟩

/-- A word's bytes, the highest first. -/
def oct (x : UInt32) : List UInt8 := [UInt8.ofNat (x.toNat / 16777216), UInt8.ofNat (x.toNat / 65536), UInt8.ofNat (x.toNat / 256), UInt8.ofNat x.toNat]
def bcells (l : List UInt8) : Array Value := (l.map Extern.Stop.cell).toArray
def wcell (x : UInt32) : Value := .int .u32 (wv x)
def wcells (l : List UInt32) : Array Value := (l.map wcell).toArray
theorem oct_cells (x : UInt32) : bcells (oct x) = #[.int .u8 (wv x / 16777216), .int .u8 (wv x / 65536 % 256), .int .u8 (wv x / 256 % 256), .int .u8 (wv x % 256)] := by
  have := x.toNat_lt
  simp only [bcells, oct, List.map_cons, List.map_nil, Extern.Stop.cell, UInt8.toNat_ofNat']
  have e : wv x = (x.toNat : Int) := rfl
  rw [e]
  congr 1
  simp
  omega
set_option maxRecDepth 100000 in
theorem octets_any (x : UInt32) (w : World) : Calls Tryd.prog 80 #[.int .u32 (wv x)] w fun e w' => e = .returned (.agg (bcells (oct x))) ∧ Below w.heap.size w w' := by
  have h0 := w_ge x
  have h1 := w_lt x
  rw [oct_cells]
  generalize wv x = z at *
  go_enter Tryd.func80, Tryd.ntmps80
  go_wp2_with fail
  exact bodyPost_ret (v := .agg #[.int .u8 (z / 16777216), .int .u8 (z / 65536 % 256), .int .u8 (z / 256 % 256), .int .u8 (z % 256)]) (by simp [results, Tryd.results80, go_sem]) rfl ⟨rfl, by (repeat (first | exact Below.refl _ _ | (refine Below.setCell ?_ (by simp) _) | (refine Below.alloc ?_ (by simp) _)))⟩
end Go.Proofs.YtnffmgpnhlcakaaDoor
