/- The cyclic sum's calls. Conditions: the tables lie where the program lays them. -/
import Derived.Test.YtlhdnkfnhdkbkaaGreatDoorSealMath
import Derived.Test.YtlhdnkfnhdkbkaaGreatDoorKit
import Derived.Test.YtlhdnkfnhdkbkaaGreatDoorQuiet
import Derived.Test.YtlhdnkfnhdkbkaaGreatDoorShelf
import Derived.Lib.Hide
import Derived.Laws.BytesArg
import Derived.Laws.IdiomStrings
namespace Go.Proofs.YtlhdnkfnhdkbkaaGreatDoor
open Go Go.RowKit

/-- The tables lie where the program lays them. -/
def Tabs (w : World) : Prop := (∀ i, i < 16 → w.cell? ⟨0, i, none⟩ = some (.int .u32 (lowT i))) ∧ (∀ i, i < 16 → w.cell? ⟨1, i, none⟩ = some (.int .u32 (highT i)))
theorem Tabs.below {w w' : World} (h : Tabs w) (k : Below w.heap.size w w') : Tabs w' := by
  refine ⟨fun i hi => ?_, fun i hi => ?_⟩
  · have := h.1 i hi
    exact (k.cell (p := ⟨0, i, none⟩) (cellLt this)).trans this
  · have := h.2 i hi
    exact (k.cell (p := ⟨1, i, none⟩) (cellLt this)).trans this

theorem u32_wrap (n : Nat) (h : n < 4294967296) : IntKind.u32.wrap (n : Int) = n := by
  show (n : Int) % 2 ^ IntKind.u32.bits = n
  rw [show (2 : Int) ^ IntKind.u32.bits = 4294967296 from rfl]
  omega
set_option maxRecDepth 100000 in
theorem further_any (c : Nat) (s : ByteArray) (w : World) (hc : c < 4294967296) (hs : s.size ≤ 281474976710656) (ht : Tabs w) :
    Calls Tryz.prog 67 #[.int .u32 c, .string s] w fun e w' => e = .returned (.int .u32 (crcF c s.data.toList)) ∧ Below w.heap.size w w' := by
  have HT := Lib.hid ht
  have HC := Lib.hid hc
  have hs' : (s.size : Int) ≤ 281474976710656 := by omega
  clear ht hc hs
  go_enter Tryz.func67, Tryz.ntmps67
  go_wp2_with fail
  go_loopw [0, 9] (fun x t wr => ∃ i : Nat, i ≤ s.size ∧ t = .int .i64 i ∧ Hid (x = .int .u32 (crcF c (s.data.toList.take i))) ∧ Below w.heap.size w wr) (fun _ t _ => (s.size - intOf t).toNat)
  case atStart => exact ⟨0, Nat.zero_le _, rfl, Lib.hid rfl, Below.refl _ _⟩
  case round =>
    obtain ⟨i, hi, rfl, HX, b0⟩ := hrel
    obtain ⟨n, hn⟩ : ∃ n, crcF c (s.data.toList.take i) = n := ⟨_, rfl⟩
    have hx := HX.out
    rw [hn] at hx
    subst hx
    by_cases hlt : i < s.size
    · have hlt' : (i : Int) < s.size := by omega
      have hn32 : n < 4294967296 := by rw [← hn]; exact crcF_lt _ _ HC.out
      have hat := atB_get s i hlt
      obtain ⟨y, hy⟩ : ∃ y, atB s i = y := ⟨_, rfl⟩
      rw [hy] at hat
      have hyb := y.toNat_lt
      have ho := outB_lt n y
      have hxor : bits .xor .u8 ((n : Int) % 256) (y.toNat : Int) = (outB n y : Int) := by
        rw [show (n : Int) % 256 = ((n % 256 : Nat) : Int) by omega, u8_xor_nat _ _ (by omega) hyb]
        rfl
      obtain ⟨o, ho1⟩ : ∃ o, outB n y = o := ⟨_, rfl⟩
      rw [ho1] at ho hxor
      obtain ⟨p, hp⟩ : ∃ p, o % 16 = p := ⟨_, rfl⟩
      obtain ⟨q, hq⟩ : ∃ q, o / 16 = q := ⟨_, rfl⟩
      have hp16 : p < 16 := by omega
      have hq16 : q < 16 := by omega
      have hp16' : (p : Int) < 16 := by omega
      have hq16' : (q : Int) < 16 := by omega
      have T := HT.out.below b0
      have c1 := T.1 p hp16
      have c2 := T.2 q hq16
      have hpl := lowT_lt ⟨p, hp16⟩
      have hqh := highT_lt ⟨q, hq16⟩
      have hand : bits .and .u8 (o : Int) 15 = (p : Int) := by
        rw [show (15 : Int) = ((15 : Nat) : Int) from rfl, u8_and_nat _ _ (by omega) (by decide), ← hp]
        congr 1
        exact Nat.and_two_pow_sub_one_eq_mod o 4
      have hdiv : (o : Int) / 16 = (q : Int) := by omega
      have hx1 : bits .xor .u32 ((n : Int) / 256) (lowT p : Int) = ((n / 256 ^^^ lowT p : Nat) : Int) := by
        rw [show (n : Int) / 256 = ((n / 256 : Nat) : Int) by omega, u32_xor_nat _ _ (by omega) hpl]
      have hl1 : n / 256 ^^^ lowT p < 4294967296 := Nat.xor_lt_two_pow (n := 32) (by omega) hpl
      have hx2 := u32_xor_nat (n / 256 ^^^ lowT p) (highT q) hl1 hqh
      have HS : Hid (crcF c (s.data.toList.take (i + 1)) = (n / 256 ^^^ lowT p) ^^^ highT q) := Lib.hid (by
        have hl : i < s.data.toList.length := hlt
        have hy2 : s.data.toList[i] = y := by
          rw [← hy, atB, List.getD_eq_getElem?_getD, List.getElem?_eq_getElem hl]
          rfl
        rw [List.take_succ_eq_append_getElem hl, crcF_put, hn, hy2, stepC, ho1, hp, hq])
      clear hn hy ho1 hp hq ho T hpl hqh hl1 hp16 hq16 HX
      generalize lowT p = a at *
      generalize highT q = b at *
      go_wp2_with fail
      go_region
      go_wp2_with fail
      exact ⟨⟨i + 1, hlt, by go_num, Lib.hid (by rw [HS.out]), b0.drew⟩, by simp [intOf]; omega⟩
    · obtain rfl : i = s.size := by omega
      have HN := Lib.hid hn
      clear hn HX
      go_wp2_with fail
      go_ret
      exact ⟨by rw [← HN.out, List.take_of_length_le (show s.data.toList.length ≤ s.size from Nat.le_refl _)]; rfl, b0⟩

theorem xor_ones (n : Nat) (h : n < 4294967296) : 4294967295 ^^^ n = 4294967295 - n := by
  have h1 := BitVec.toNat_not (x := BitVec.ofNat 32 n)
  rw [← BitVec.xor_allOnes, BitVec.toNat_xor, BitVec.toNat_allOnes, BitVec.toNat_ofNat, Nat.mod_eq_of_lt h] at h1
  rw [Nat.xor_comm]
  exact h1
theorem or_add (a b k : Nat) (h : b < 2 ^ k) : a * 2 ^ k ||| b = a * 2 ^ k + b := by
  have := Nat.shiftLeft_add_eq_or_of_lt h a
  rw [Nat.shiftLeft_eq] at this
  exact this.symm
theorem crc_of (l : List UInt8) : ∃ n : Nat, n < 4294967296 ∧ crcF 4294967295 l = n ∧ crc l = 4294967295 - n := ⟨_, crcF_lt _ _ (by decide), rfl, rfl⟩
set_option maxRecDepth 100000 in
theorem joint_any (a b : ByteArray) (w : World) (ha : a.size ≤ 281474976710656) (hb : b.size ≤ 281474976710656) (ht : Tabs w) :
    Calls Tryz.prog 46 #[.string a, .string b] w fun e w' => e = .returned (.int .u32 (crc (a.data.toList ++ b.data.toList))) ∧ Below w.heap.size w w' := by
  obtain ⟨n, hn, h1, h2⟩ := crc_of (a.data.toList ++ b.data.toList)
  have H1 := Lib.hid (further_any 4294967295 a w (by decide) ha ht)
  have H2 : ∀ w, Tabs w → Hid (Calls Tryz.prog 67 #[.int .u32 (crcF 4294967295 a.data.toList), .string b] w fun e w' => e = .returned (.int .u32 n) ∧ Below w.heap.size w w') := fun w ht => Lib.hid (by
    have := further_any (crcF 4294967295 a.data.toList) b w (crcF_lt _ _ (by decide)) hb ht
    rwa [← crcF_append, h1] at this)
  have HC := Lib.hid h2
  have HT := Lib.hid ht
  clear h1 h2 ha hb ht
  go_enter Tryz.func46, Tryz.ntmps46
  go_wp2_with fail
  refine H1.out.mono ?_
  rintro e w1 ⟨rfl, b1⟩
  go_wp2_with fail
  refine (H2 _ (HT.out.below b1)).out.mono ?_
  rintro e w2 ⟨rfl, b2⟩
  have b3 := below_past b1 b2 b1.size
  have hmax : bits .xor .u32 IntKind.u32.max (n : Int) = ((4294967295 - n : Nat) : Int) := by
    rw [← xor_ones n hn]
    exact u32_xor_nat 4294967295 n (by decide) hn
  have hsg : IntKind.u32.signed = false := rfl
  clear b1 b2
  go_wp2_with fail
  go_ret
  exact ⟨by rw [HC.out]; rfl, b3⟩
theorem cells_be4 (n : Nat) (w : World) (hn : n < 4294967296) :
    (convert 51 9 (.slice (some ⟨w.heap.size, 0, none⟩) 4 4)).run Tryz.prog (w.alloc (.cells #[.int .u8 ((n : Int) / 16777216), .int .u8 ((n : Int) / 65536 % 256), .int .u8 ((n : Int) / 256 % 256), .int .u8 ((n : Int) % 256)] 5)) = .ok (.string (stx (be4 n))) (w.alloc (.cells #[.int .u8 ((n : Int) / 16777216), .int .u8 ((n : Int) / 65536 % 256), .int .u8 ((n : Int) / 256 % 256), .int .u8 ((n : Int) % 256)] 5)) := by
  refine run_convert_bytes_back _ _ _ _ ⟨w.heap.size, 0, none⟩ 4 (be4 n) Tryz.underlying51 Tryz.underlying5 Tryz.underlying9 fun j hj => ?_
  have r := rowAt_alloc_at w #[.int .u8 ((n : Int) / 16777216), .int .u8 ((n : Int) / 65536 % 256), .int .u8 ((n : Int) / 256 % 256), .int .u8 ((n : Int) % 256)] 5 _ rfl
  rw [show (⟨w.heap.size, 0, none⟩ : Addr).add j = ⟨w.heap.size, j, none⟩ by simp [Addr.add]; exact fun e => e.symm, cell_of_rowAt r]
  have hb : ∀ m : Nat, ((UInt8.ofNat m).toNat : Int) = (m : Int) % 256 := fun m => by rw [UInt8.toNat_ofNat']; omega
  match j, hj with
  | 0, _ => exact congrArg (fun x => some (Value.int .u8 x)) (show (n : Int) / 16777216 = ((UInt8.ofNat (n / 16777216)).toNat : Int) by rw [hb]; omega)
  | 1, _ => exact congrArg (fun x => some (Value.int .u8 x)) (show (n : Int) / 65536 % 256 = ((UInt8.ofNat (n / 65536)).toNat : Int) by rw [hb]; omega)
  | 2, _ => exact congrArg (fun x => some (Value.int .u8 x)) (show (n : Int) / 256 % 256 = ((UInt8.ofNat (n / 256)).toNat : Int) by rw [hb]; omega)
  | 3, _ => exact congrArg (fun x => some (Value.int .u8 x)) (show (n : Int) % 256 = ((UInt8.ofNat n).toNat : Int) by rw [hb])
set_option maxRecDepth 100000 in
theorem spelled_any (n : Nat) (w : World) (hn : n < 4294967296) :
    Calls Tryz.prog 45 #[.int .u32 n] w fun e w' => e = .returned (.string (stx (be4 n))) ∧ Below w.heap.size w w' := by
  have hc := cells_be4 n w
  have b0 : Below w.heap.size w (w.alloc (.cells #[.int .u8 ((n : Int) / 16777216), .int .u8 ((n : Int) / 65536 % 256), .int .u8 ((n : Int) / 256 % 256), .int .u8 ((n : Int) % 256)] 5)) := (Below.refl _ _).alloc (Nat.le_refl _) _
  go_enter Tryz.func45, Tryz.ntmps45
  go_wp2_with fail
  try rw [hc hn]
  try simp only [Result.andThen]
  try rw [Oper.upon_value]
  go_wp2_with fail
  go_ret
  exact ⟨rfl, b0⟩
set_option maxRecDepth 100000 in
theorem number_any (s : ByteArray) (w : World) (hs : 4 ≤ s.size) :
    Calls Tryz.prog 83 #[.string s] w fun e w' => e = .returned (.int .u32 (num4 s.data.toList)) ∧ Below w.heap.size w w' := by
  have g0 := atB_get s 0 (by omega)
  have g1 := atB_get s 1 (by omega)
  have g2 := atB_get s 2 (by omega)
  have g3 := atB_get s 3 (by omega)
  have h0 := (atB s 0).toNat_lt
  have h1 := (atB s 1).toNat_lt
  have h2 := (atB s 2).toNat_lt
  have h3 := (atB s 3).toNat_lt
  have hs0 : 0 < s.size := by omega
  have hs1 : 1 < s.size := by omega
  have hs2 : 2 < s.size := by omega
  have hs3 : 3 < s.size := by omega
  have HN : Hid (num4 s.data.toList = (atB s 0).toNat * 16777216 + (atB s 1).toNat * 65536 + (atB s 2).toNat * 256 + (atB s 3).toNat) := Lib.hid rfl
  generalize atB s 0 = x0 at *
  generalize atB s 1 = x1 at *
  generalize atB s 2 = x2 at *
  generalize atB s 3 = x3 at *
  obtain ⟨a, ha⟩ : ∃ a, x0.toNat = a := ⟨_, rfl⟩
  obtain ⟨b, hb⟩ : ∃ a, x1.toNat = a := ⟨_, rfl⟩
  obtain ⟨c, hc⟩ : ∃ a, x2.toNat = a := ⟨_, rfl⟩
  obtain ⟨d, hd⟩ : ∃ a, x3.toNat = a := ⟨_, rfl⟩
  rw [ha] at h0
  rw [hb] at h1
  rw [hc] at h2
  rw [hd] at h3
  have e1 : bits .or .u32 ((a : Int) * 16777216) ((b : Int) * 65536) = ((a * 16777216 + b * 65536 : Nat) : Int) := by
    rw [show (a : Int) * 16777216 = ((a * 16777216 : Nat) : Int) by omega, show (b : Int) * 65536 = ((b * 65536 : Nat) : Int) by omega, u32_or_nat _ _ (by omega) (by omega)]
    exact congrArg Nat.cast (or_add a (b * 65536) 24 (by omega))
  have e2 : bits .or .u32 ((a * 16777216 + b * 65536 : Nat) : Int) ((c : Int) * 256) = ((a * 16777216 + b * 65536 + c * 256 : Nat) : Int) := by
    rw [show (c : Int) * 256 = ((c * 256 : Nat) : Int) by omega, u32_or_nat _ _ (by omega) (by omega)]
    have := or_add (a * 256 + b) (c * 256) 16 (by omega)
    rw [show (a * 256 + b) * 2 ^ 16 = a * 16777216 + b * 65536 by omega] at this
    rw [this]
  have e3 : bits .or .u32 ((a * 16777216 + b * 65536 + c * 256 : Nat) : Int) (d : Int) = ((a * 16777216 + b * 65536 + c * 256 + d : Nat) : Int) := by
    rw [u32_or_nat _ _ (by omega) (by omega)]
    have := or_add (a * 65536 + b * 256 + c) d 8 (by omega)
    rw [show (a * 65536 + b * 256 + c) * 2 ^ 8 = a * 16777216 + b * 65536 + c * 256 by omega] at this
    rw [this]
  have HN2 : Hid (num4 s.data.toList = a * 16777216 + b * 65536 + c * 256 + d) := Lib.hid (by rw [HN.out, ha, hb, hc, hd])
  have E1 := Lib.hid e1
  have E2 := Lib.hid e2
  have E3 := Lib.hid e3
  clear e1 e2 e3 HN
  go_enter Tryz.func83, Tryz.ntmps83
  go_wp2_with fail
  go_region
  rw [E1.out, E2.out, E3.out]
  go_wp2_with fail
  go_ret
  exact ⟨by rw [HN2.out]; rfl, (Below.refl _ _).drew⟩
end Go.Proofs.YtlhdnkfnhdkbkaaGreatDoor
