/- The writer's calls, whatever is written. Conditions: none. -/
import Derived.Test.YtnffmgpnhlcakaaDoorCodeMath
import Derived.Test.YtnffmgpnhlcakaaDoorCode7
namespace Go.Proofs.YtnffmgpnhlcakaaDoor
open Go Go.RowKit

def numW (bs : List UInt8) (err n : Int) : List UInt8 := if n < 0 then [] else added bs err (numBytes n.toNat)
def numWE (err n : Int) : Int := if n < 0 then (if err = 0 then 1 else err) else err
theorem WNumber_all (B b : Nat) (bs : List UInt8) (err n : Int) (w : World) (h : WriterAt B b bs err w) (hn : n < 9223372036854775808) (hBw : B ≤ w.heap.size) :
    Calls Tryd.prog 43 #[.pointer (some ⟨b, 0, none⟩), .int .i64 n] w fun r w' => r = .returned (.tuple #[]) ∧ WriterAt B b (numW bs err n) (numWE err n) w' ∧ Near B b w w' := by
  by_cases h0 : n < 0
  · rw [numW, numWE, if_pos h0, if_pos h0]
    exact Number_neg B b bs err n w h h0
  · rw [numW, numWE, if_neg h0, if_neg h0]
    obtain ⟨m, rfl⟩ : ∃ m : Nat, n = m := ⟨n.toNat, by omega⟩
    exact Number_any B b bs err m w h (by omega) hBw
def textW (bs : List UInt8) (err : Int) (s : ByteArray) : List UInt8 := if 65536 < s.size then [] else added (added bs err (numBytes s.size)) err s.data.toList
def textWE (err : Int) (s : ByteArray) : Int := if 65536 < s.size then (if err = 0 then 2 else err) else err
def doneS (bs : List UInt8) (err : Int) : List UInt8 := if err ≠ 0 ∨ 65536 < bs.length then [] else bs
def doneE (bs : List UInt8) (err : Int) : Int := if err ≠ 0 then err else if 65536 < bs.length then 2 else 0
theorem WDone_all (B b : Nat) (bs : List UInt8) (err : Int) (w : World) (h : WriterAt B b bs err w) :
    Calls Tryd.prog 44 #[.pointer (some ⟨b, 0, none⟩)] w fun r w' => r = .returned (.tuple #[.string (txt (doneS bs err)), .int .i64 (doneE bs err)]) ∧ Below w.heap.size w w' := by
  refine (Done_any B b bs err w h).mono ?_
  rintro e w' ⟨rfl, hb⟩
  refine ⟨?_, hb⟩
  rw [doneS, doneE]
  by_cases he : err = 0
  · by_cases hl : 65536 < bs.length
    · simp [he, hl]
    · simp [he, hl]
  · simp [he]
theorem doneE_zero {bs : List UInt8} {err : Int} (h : doneE bs err = 0) : err = 0 ∧ bs.length ≤ 65536 ∧ doneS bs err = bs := by
  unfold doneE at h
  split at h
  · contradiction
  · split at h
    · cases h
    · rename_i h1 h2
      have h1 : err = 0 := by omega
      exact ⟨h1, by omega, by rw [doneS, if_neg (by omega)]⟩
theorem doneE_err {bs : List UInt8} {err : Int} (h : doneE bs err ≠ 0) : doneS bs err = [] := by
  unfold doneE at h
  unfold doneS
  by_cases h1 : err ≠ 0
  · rw [if_pos (.inl h1)]
  · by_cases h2 : 65536 < bs.length
    · rw [if_pos (.inr h2)]
    · rw [if_neg h1, if_neg h2] at h
      exact absurd rfl h
theorem numWE_zero {err n : Int} (h : numWE err n = 0) : 0 ≤ n ∧ err = 0 := by
  unfold numWE at h
  split at h
  · split at h
    · cases h
    · contradiction
  · exact ⟨by omega, h⟩
theorem textWE_zero {err : Int} {s : ByteArray} (h : textWE err s = 0) : s.size ≤ 65536 ∧ err = 0 := by
  unfold textWE at h
  split at h
  · split at h
    · cases h
    · contradiction
  · exact ⟨by omega, h⟩
theorem added_le {bs : List UInt8} {s : List UInt8} (h : bs.length ≤ 65536) : added bs 0 s = bs ++ s := if_pos ⟨rfl, h⟩
/-- Where what is there in the end isn't too long, all was added. -/
theorem added_end {bs s : List UInt8} (h : (added bs 0 s).length ≤ 65536) : bs.length ≤ 65536 ∧ added bs 0 s = bs ++ s := by
  by_cases hb : bs.length ≤ 65536
  · exact ⟨hb, added_le hb⟩
  · rw [added, if_neg (fun e => hb e.2)] at h
    exact absurd h hb
end Go.Proofs.YtnffmgpnhlcakaaDoor
