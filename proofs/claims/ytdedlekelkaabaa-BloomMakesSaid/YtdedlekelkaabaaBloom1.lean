/- The hash of a key: the program's and the document's. Conditions: none. -/
import Derived.Test.YtdedlekelkaabaaStrs
import Derived.Test.YtdedlekelkaabaaRows
import Derived.Laws.BitsAllLaws
import Derived.WalkLawsBesides
import Derived.Test.YtdedlekelkaabaaCode1
namespace Go.Proofs.Ytdedlekelkaabaa
open Go Go.RowKit

/-- A word of 64 bits as it lies in a cell. -/
def qv (x : UInt64) : Int := (x.toNat : Int)
theorem q_lt (x : UInt64) : qv x < 2 ^ 64 := by have := x.toNat_lt; unfold qv; omega
theorem q_ge (x : UInt64) : 0 ≤ qv x := Int.natCast_nonneg _
theorem q_xor (x y : UInt64) : bits .xor .u64 (qv x) (qv y) = qv (x ^^^ y) := by
  unfold qv
  show IntKind.u64.wrap ((BitVec.ofInt 64 (x.toNat : Int) ^^^ BitVec.ofInt 64 (y.toNat : Int)).toNat : Int) = _
  rw [BitVec.toNat_xor, ofInt_u64 _ x.toNat_lt, ofInt_u64 _ y.toNat_lt]
  show ((x.toNat ^^^ y.toNat : Nat) : Int) % 2 ^ IntKind.u64.bits = _
  have hx : x.toNat ^^^ y.toNat < 2 ^ 64 := Nat.xor_lt_two_pow x.toNat_lt y.toNat_lt
  rw [UInt64.toNat_xor, show (2 : Int) ^ IntKind.u64.bits = 18446744073709551616 from rfl]
  omega
theorem q_or (x y : UInt64) : bits .or .u64 (qv x) (qv y) = qv (x ||| y) := by
  unfold qv
  show IntKind.u64.wrap ((BitVec.ofInt 64 (x.toNat : Int) ||| BitVec.ofInt 64 (y.toNat : Int)).toNat : Int) = _
  rw [BitVec.toNat_or, ofInt_u64 _ x.toNat_lt, ofInt_u64 _ y.toNat_lt]
  show ((x.toNat ||| y.toNat : Nat) : Int) % 2 ^ IntKind.u64.bits = _
  have hx : x.toNat ||| y.toNat < 2 ^ 64 := Nat.or_lt_two_pow x.toNat_lt y.toNat_lt
  rw [UInt64.toNat_or, show (2 : Int) ^ IntKind.u64.bits = 18446744073709551616 from rfl]
  omega
theorem q_mul (x y : UInt64) : qv x * qv y % 18446744073709551616 = qv (x * y) := by
  unfold qv
  rw [UInt64.toNat_mul]
  have : ((x.toNat * y.toNat : Nat) : Int) = (x.toNat : Int) * (y.toNat : Int) := Int.natCast_mul _ _
  omega
theorem q_add (x y : UInt64) : (qv x + qv y) % 18446744073709551616 = qv (x + y) := by
  unfold qv
  rw [UInt64.toNat_add]
  omega
theorem q_mulw (x y : UInt64) : IntKind.u64.wrap (qv x * qv y) = qv (x * y) := by
  show (qv x * qv y) % 2 ^ IntKind.u64.bits = _
  rw [show (2 : Int) ^ IntKind.u64.bits = 18446744073709551616 from rfl]
  exact q_mul x y
theorem q_addw (x y : UInt64) : IntKind.u64.wrap (qv x + qv y) = qv (x + y) := by
  show (qv x + qv y) % 2 ^ IntKind.u64.bits = _
  rw [show (2 : Int) ^ IntKind.u64.bits = 18446744073709551616 from rfl]
  exact q_add x y
theorem q_shr (x : UInt64) (k : Nat) (hk : k < 64) : qv x / (2 ^ k : Nat) = qv (x >>> UInt64.ofNat k) := by
  show (x.toNat : Int) / (2 ^ k : Nat) = ((x >>> UInt64.ofNat k).toNat : Int)
  rw [UInt64.toNat_shiftRight, UInt64.toNat_ofNat', Nat.mod_eq_of_lt (show k < 2 ^ 64 by omega), Nat.mod_eq_of_lt hk, Nat.shiftRight_eq_div_pow]
  rfl
theorem q_byte (c : UInt8) : qv (UInt64.ofNat c.toNat) = (c.toNat : Int) := by
  unfold qv
  rw [UInt64.toNat_ofNat', Nat.mod_eq_of_lt (by have := c.toNat_lt; omega)]
def h0 : UInt64 := 14695981039346656037
def hm : UInt64 := 1099511628211
def hn : UInt64 := 13787848793156543929
def hstep (h : UInt64) (c : UInt8) : UInt64 := (h ^^^ UInt64.ofNat c.toNat) * hm
def hfin (h : UInt64) : UInt64 := let a := (h ^^^ (h >>> UInt64.ofNat 29)) * hn; a ^^^ (a >>> UInt64.ofNat 32)
def hashL (l : List UInt8) : UInt64 := hfin (l.foldl hstep h0)
theorem hash_step (l : List UInt8) (s : ByteArray) (i : Nat) (hs : s.data.toList = l) (hi : i < s.size) : (l.take (i + 1)).foldl hstep h0 = hstep ((l.take i).foldl hstep h0) (at_ s i) := by
  subst hs
  have hl : i < s.data.toList.length := hi
  have hat2 : s.data.toList[i] = at_ s i := by
    unfold at_
    rw [List.getD_eq_getElem?_getD, List.getElem?_eq_getElem hl]
    rfl
  rw [List.take_succ_eq_append_getElem hl, List.foldl_append, hat2]
  rfl
theorem hash_round (H : UInt64) (c : UInt8) : IntKind.u64.wrap (bits .xor .u64 (qv H) (c.toNat : Int) * 1099511628211) = qv (hstep H c) := by
  rw [← q_byte, q_xor, show (1099511628211 : Int) = qv hm from rfl, q_mulw]
  rfl
theorem hash_end1 (H : UInt64) : bits .xor .u64 (qv H) (qv H / 536870912) = qv (H ^^^ (H >>> UInt64.ofNat 29)) := by
  have := q_shr H 29 (by decide)
  rw [show ((2 ^ 29 : Nat) : Int) = 536870912 from rfl] at this
  rw [this, q_xor]
theorem hash_end2 (H : UInt64) : IntKind.u64.wrap (qv H * 13787848793156543929) = qv (H * hn) := by
  rw [show (13787848793156543929 : Int) = qv hn from rfl, q_mulw]
theorem hash_end3 (H : UInt64) : bits .xor .u64 (qv H) (qv H / 4294967296) = qv (H ^^^ (H >>> UInt64.ofNat 32)) := by
  have := q_shr H 32 (by decide)
  rw [show ((2 ^ 32 : Nat) : Int) = 4294967296 from rfl] at this
  rw [this, q_xor]
set_option maxRecDepth 100000 in
theorem bHash_any (s : ByteArray) (w : World) (hs : s.size ≤ 281474976710656) :
    Calls Try.prog 35 #[.string s] w fun e w' => e = .returned (.int .u64 (qv (hashL s.data.toList))) ∧ w' = w := by
  have hsz : (s.size : Int) ≤ 281474976710656 := by omega
  obtain ⟨V, hVV⟩ : ∃ V, hashL s.data.toList = V := ⟨_, rfl⟩
  rw [hVV]
  have HVV := Lib.hid hVV
  clear hs hVV
  go_enter Try.func35, Try.ntmps35
  go_wp2_with fail
  go_loop [3, 7] (fun h x => ∃ i : Nat, i ≤ s.size ∧ x = .int .i64 i ∧ Hid (h = .int .u64 (qv ((s.data.toList.take i).foldl hstep h0)))) (fun _ x => (s.size - intOf x).toNat)
  case atStart => exact ⟨0, Nat.zero_le _, rfl, Lib.hid rfl⟩
  case round =>
    obtain ⟨i, hi, rfl, HX⟩ := hrel
    have hx := HX.out
    subst hx
    by_cases hlt : i < s.size
    · have hlt' : (i : Int) < s.size := by omega
      have hat := get_at s i hlt
      have HS := Lib.hid (hash_step s.data.toList s i rfl hlt)
      generalize (s.data.toList.take i).foldl hstep h0 = H at *
      have hcb : ((at_ s i).toNat : Int) < 256 := by have := (at_ s i).toNat_lt; omega
      have hca : (0 : Int) ≤ ((at_ s i).toNat : Int) := Int.natCast_nonneg _
      have hr := hash_round H (at_ s i)
      clear HX
      go_wp2_with fail
      exact ⟨⟨i + 1, hlt, by go_num, Lib.hid (by rw [HS.out])⟩, by simp [intOf]; omega⟩
    · obtain rfl : i = s.size := by omega
      have HF : Hid (hfin ((s.data.toList.take s.size).foldl hstep h0) = V) := Lib.hid (by
        rw [show s.data.toList.take s.size = s.data.toList from List.take_of_length_le (Nat.le_refl _)]
        exact HVV.out)
      generalize (s.data.toList.take s.size).foldl hstep h0 = H at *
      have e1 := hash_end1 H
      obtain ⟨A1, hA1⟩ : ∃ A1, H ^^^ (H >>> UInt64.ofNat 29) = A1 := ⟨_, rfl⟩
      rw [hA1] at e1
      have e2 := hash_end2 A1
      obtain ⟨A2, hA2⟩ : ∃ A2, A1 * hn = A2 := ⟨_, rfl⟩
      rw [hA2] at e2
      have e3 := hash_end3 A2
      have hV : A2 ^^^ (A2 >>> UInt64.ofNat 32) = V := by
        rw [← HF.out, hfin, hA1, hA2]
      rw [hV] at e3
      have g1 := q_ge H
      have g2 := q_ge A2
      clear HX HF hA1 hA2 hV
      go_wp2_with fail
      go_ret
      exact ⟨rfl, rfl⟩
set_option maxRecDepth 100000 in
theorem r8Hash_any (s : ByteArray) (w : World) (hs : s.size ≤ 281474976710656) :
    Calls Try.prog 37 #[.string s] w fun e w' => e = .returned (.int .u64 (qv (hashL s.data.toList))) ∧ w' = w := by
  have hsz : (s.size : Int) ≤ 281474976710656 := by omega
  obtain ⟨V, hVV⟩ : ∃ V, hashL s.data.toList = V := ⟨_, rfl⟩
  rw [hVV]
  have HVV := Lib.hid hVV
  clear hs hVV
  go_enter Try.func37, Try.ntmps37
  go_wp2_with fail
  go_loop [3, 4] (fun h x => ∃ i : Nat, i ≤ s.size ∧ x = .int .i64 i ∧ Hid (h = .int .u64 (qv ((s.data.toList.take i).foldl hstep h0)))) (fun _ x => (s.size - intOf x).toNat)
  case atStart => exact ⟨0, Nat.zero_le _, rfl, Lib.hid rfl⟩
  case round =>
    obtain ⟨i, hi, rfl, HX⟩ := hrel
    have hx := HX.out
    subst hx
    by_cases hlt : i < s.size
    · have hlt' : (i : Int) < s.size := by omega
      have hat := get_at s i hlt
      have HS := Lib.hid (hash_step s.data.toList s i rfl hlt)
      generalize (s.data.toList.take i).foldl hstep h0 = H at *
      have hcb : ((at_ s i).toNat : Int) < 256 := by have := (at_ s i).toNat_lt; omega
      have hca : (0 : Int) ≤ ((at_ s i).toNat : Int) := Int.natCast_nonneg _
      have hr := hash_round H (at_ s i)
      clear HX
      go_wp2_with fail
      exact ⟨⟨i + 1, hlt, by go_num, Lib.hid (by rw [HS.out])⟩, by simp [intOf]; omega⟩
    · obtain rfl : i = s.size := by omega
      have HF : Hid (hfin ((s.data.toList.take s.size).foldl hstep h0) = V) := Lib.hid (by
        rw [show s.data.toList.take s.size = s.data.toList from List.take_of_length_le (Nat.le_refl _)]
        exact HVV.out)
      generalize (s.data.toList.take s.size).foldl hstep h0 = H at *
      have e1 := hash_end1 H
      obtain ⟨A1, hA1⟩ : ∃ A1, H ^^^ (H >>> UInt64.ofNat 29) = A1 := ⟨_, rfl⟩
      rw [hA1] at e1
      have e2 := hash_end2 A1
      obtain ⟨A2, hA2⟩ : ∃ A2, A1 * hn = A2 := ⟨_, rfl⟩
      rw [hA2] at e2
      have e3 := hash_end3 A2
      have hV : A2 ^^^ (A2 >>> UInt64.ofNat 32) = V := by
        rw [← HF.out, hfin, hA1, hA2]
      rw [hV] at e3
      have g1 := q_ge H
      have g2 := q_ge A2
      clear HX HF hA1 hA2 hV
      go_wp2_with fail
      go_ret
      exact ⟨rfl, rfl⟩
end Go.Proofs.Ytdedlekelkaabaa
