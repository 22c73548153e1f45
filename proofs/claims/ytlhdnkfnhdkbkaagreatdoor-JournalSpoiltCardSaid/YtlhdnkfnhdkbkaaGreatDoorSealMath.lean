/- The cyclic sum and frames: plain facts. Conditions: none. -/
import Derived.Test.YtlhdnkfnhdkbkaaGreatDoorStrs
import Derived.Laws.BitsAllLaws
import Derived.IntWalk
namespace Go.Proofs.YtlhdnkfnhdkbkaaGreatDoor
open Go

def lowL : List Nat := [0, 1996959894, 3993919788, 2567524794, 124634137, 1886057615, 3915621685, 2657392035, 249268274, 2044508324, 3772115230, 2547177864, 162941995, 2125561021, 3887607047, 2428444049]
def highL : List Nat := [0, 498536548, 997073096, 651767980, 1994146192, 1802195444, 1303535960, 1342533948, 3988292384, 4027552580, 3604390888, 3412177804, 2607071920, 2262029012, 2685067896, 3183342108]
def lowT (i : Nat) : Nat := lowL.getD i 0
def highT (i : Nat) : Nat := highL.getD i 0
theorem lowT_lt : ∀ i : Fin 16, lowT i.val < 4294967296 := by decide +kernel
theorem highT_lt : ∀ i : Fin 16, highT i.val < 4294967296 := by decide +kernel
/-- What goes out of the sum with a byte. -/
def outB (c : Nat) (b : UInt8) : Nat := (c % 256) ^^^ b.toNat
theorem outB_lt (c : Nat) (b : UInt8) : outB c b < 256 := Nat.xor_lt_two_pow (n := 8) (Nat.mod_lt _ (by decide)) b.toNat_lt
def stepC (c : Nat) (b : UInt8) : Nat := c / 256 ^^^ lowT (outB c b % 16) ^^^ highT (outB c b / 16)
theorem stepC_lt (c : Nat) (b : UInt8) (h : c < 4294967296) : stepC c b < 4294967296 := by
  have h1 := lowT_lt ⟨outB c b % 16, Nat.mod_lt _ (by decide)⟩
  have h2 := highT_lt ⟨outB c b / 16, by have := outB_lt c b; omega⟩
  exact Nat.xor_lt_two_pow (n := 32) (Nat.xor_lt_two_pow (n := 32) (by omega) h1) h2
def crcF (c : Nat) (l : List UInt8) : Nat := l.foldl stepC c
theorem crcF_lt (c : Nat) (l : List UInt8) (h : c < 4294967296) : crcF c l < 4294967296 := by
  induction l generalizing c with
  | nil => exact h
  | cons b l ih => exact ih _ (stepC_lt c b h)
theorem crcF_append (c : Nat) (l m : List UInt8) : crcF c (l ++ m) = crcF (crcF c l) m := by simp [crcF]
theorem crcF_put (c : Nat) (l : List UInt8) (b : UInt8) : crcF c (l ++ [b]) = stepC (crcF c l) b := by simp [crcF]
/-- The cyclic sum. -/
def crc (l : List UInt8) : Nat := 4294967295 - crcF 4294967295 l
theorem crc_lt (l : List UInt8) : crc l < 4294967296 := by unfold crc; omega
/-- A word's bytes, the highest first. -/
def be4 (n : Nat) : List UInt8 := [UInt8.ofNat (n / 16777216), UInt8.ofNat (n / 65536), UInt8.ofNat (n / 256), UInt8.ofNat n]
def sizeB (n : Nat) : List UInt8 := be4 (1577058304 + n)
/-- The frame of a text. -/
def frame (s : List UInt8) : List UInt8 := sizeB s.length ++ (be4 (crc (sizeB s.length ++ s)) ++ s)
theorem be4_length (n : Nat) : (be4 n).length = 4 := rfl
theorem frame_length (s : List UInt8) : (frame s).length = 8 + s.length := by
  rw [frame, List.length_append, List.length_append, sizeB, be4_length, be4_length]
  omega
/-- The word of the first four bytes. -/
def num4 (l : List UInt8) : Nat := (l.getD 0 0).toNat * 16777216 + (l.getD 1 0).toNat * 65536 + (l.getD 2 0).toNat * 256 + (l.getD 3 0).toNat
theorem num4_lt (l : List UInt8) : num4 l < 4294967296 := by
  have h0 := (l.getD 0 0).toNat_lt
  have h1 := (l.getD 1 0).toNat_lt
  have h2 := (l.getD 2 0).toNat_lt
  have h3 := (l.getD 3 0).toNat_lt
  unfold num4
  omega
theorem num4_be4 (n : Nat) (h : n < 4294967296) (r : List UInt8) : num4 (be4 n ++ r) = n := by
  show (UInt8.ofNat (n / 16777216)).toNat * 16777216 + (UInt8.ofNat (n / 65536)).toNat * 65536 + (UInt8.ofNat (n / 256)).toNat * 256 + (UInt8.ofNat n).toNat = n
  simp only [UInt8.toNat_ofNat']
  omega
/-- Why a text isn't a frame: the error's number; 0, if it begins with one. -/
def opE (l : List UInt8) : Int :=
  if l.length < 8 then 5
  else if (l.getD 0 0).toNat ≠ 94 ∨ 65536 < num4 l % 16777216 then 4
  else if l.length - 8 < num4 l % 16777216 then 5
  else if num4 (l.drop 4) ≠ crc (l.take 4 ++ (l.drop 8).take (num4 l % 16777216)) then 6
  else 0
def opS (l : List UInt8) : List UInt8 := if opE l = 0 then (l.drop 8).take (num4 l % 16777216) else []
def opN (l : List UInt8) : Nat := if opE l = 0 then 8 + num4 l % 16777216 else 0
/-- A frame is opened. -/
theorem open_frame (s r : List UInt8) (h : s.length ≤ 65536) : opE (frame s ++ r) = 0 ∧ opS (frame s ++ r) = s ∧ opN (frame s ++ r) = 8 + s.length := by
  have e : frame s ++ r = sizeB s.length ++ (be4 (crc (sizeB s.length ++ s)) ++ (s ++ r)) := by simp [frame]
  have hl : (frame s ++ r).length = 8 + s.length + r.length := by rw [List.length_append, frame_length]
  have hn : num4 (frame s ++ r) = 1577058304 + s.length := by rw [e, sizeB]; exact num4_be4 _ (by omega) _
  have hm : num4 (frame s ++ r) % 16777216 = s.length := by omega
  have h0 : ((frame s ++ r).getD 0 0).toNat = 94 := by
    rw [e]
    show (UInt8.ofNat ((1577058304 + s.length) / 16777216)).toNat = 94
    rw [UInt8.toNat_ofNat']
    omega
  have d4 : (frame s ++ r).drop 4 = be4 (crc (sizeB s.length ++ s)) ++ (s ++ r) := by rw [e]; rfl
  have d8 : (frame s ++ r).drop 8 = s ++ r := by rw [e]; rfl
  have t4 : (frame s ++ r).take 4 = sizeB s.length := by rw [e]; rfl
  have hE : opE (frame s ++ r) = 0 := by
    rw [opE, if_neg (by omega), if_neg (by rw [hm, h0]; omega), if_neg (by omega), if_neg]
    rw [d4, d8, t4, hm, num4_be4 _ (crc_lt _), List.take_left]
    exact fun k => k rfl
  refine ⟨hE, ?_, ?_⟩
  · rw [opS, if_pos hE, d8, hm, List.take_left]
  · rw [opN, if_pos hE, hm]
theorem opE_range (l : List UInt8) : opE l = 0 ∨ opE l = 4 ∨ opE l = 5 ∨ opE l = 6 := by
  unfold opE
  split
  · simp
  · split
    · simp
    · split
      · simp
      · split <;> simp
theorem opN_le (l : List UInt8) : opN l ≤ l.length ∧ (opE l = 0 → 8 ≤ opN l) ∧ (opS l).length ≤ 65536 := by
  unfold opN opS
  by_cases h : opE l = 0
  · rw [if_pos h, if_pos h]
    have h2 := h
    unfold opE at h2
    split at h2
    · cases h2
    · split at h2
      · cases h2
      · split at h2
        · cases h2
        · refine ⟨by omega, fun _ => by omega, ?_⟩
          rw [List.length_take]
          omega
  · rw [if_neg h, if_neg h]
    exact ⟨Nat.zero_le _, fun e => absurd e h, Nat.zero_le _⟩
/-- All frames from place at on: their texts, and where they end. -/
def allF : Nat → List UInt8 → Nat → List (List UInt8) × Nat
  | 0, _, n => ([], n)
  | f + 1, l, n => if opE (l.drop n) = 0 then ((opS (l.drop n)) :: (allF f l (n + opN (l.drop n))).1, (allF f l (n + opN (l.drop n))).2) else ([], n)
end Go.Proofs.YtlhdnkfnhdkbkaaGreatDoor
