/- The sum of a text, as functions of words. Conditions: none. -/
import Derived.Test.YtnffmgpnhlcakaaDoorShaRow
namespace Go.Proofs.YtnffmgpnhlcakaaDoor
open Go

structure Hs where
  a : UInt32
  b : UInt32
  c : UInt32
  d : UInt32
  e : UInt32
  f : UInt32
  g : UInt32
  h : UInt32
def cubesL : List Nat := [1116352408, 1899447441, 3049323471, 3921009573, 961987163, 1508970993, 2453635748, 2870763221, 3624381080, 310598401, 607225278, 1426881987, 1925078388, 2162078206, 2614888103, 3248222580, 3835390401, 4022224774, 264347078, 604807628, 770255983, 1249150122, 1555081692, 1996064986, 2554220882, 2821834349, 2952996808, 3210313671, 3336571891, 3584528711, 113926993, 338241895, 666307205, 773529912, 1294757372, 1396182291, 1695183700, 1986661051, 2177026350, 2456956037, 2730485921, 2820302411, 3259730800, 3345764771, 3516065817, 3600352804, 4094571909, 275423344, 430227734, 506948616, 659060556, 883997877, 958139571, 1322822218, 1537002063, 1747873779, 1955562222, 2024104815, 2227730452, 2361852424, 2428436474, 2756734187, 3204031479, 3329325298]
def cubeT (i : Nat) : UInt32 := UInt32.ofNat (cubesL.getD i 0)
def sum1 (x : UInt32) : UInt32 := rotr x 6 ^^^ rotr x 11 ^^^ rotr x 25
def sum0 (x : UInt32) : UInt32 := rotr x 2 ^^^ rotr x 13 ^^^ rotr x 22
def sig0 (x : UInt32) : UInt32 := rotr x 7 ^^^ rotr x 18 ^^^ x >>> 3
def sig1 (x : UInt32) : UInt32 := rotr x 17 ^^^ rotr x 19 ^^^ x >>> 10
def roundP (s : Hs) (k w : UInt32) : UInt32 := s.h + sum1 s.e + (s.e &&& s.f ^^^ ~~~s.e &&& s.g) + k + w
def roundQ (s : Hs) : UInt32 := sum0 s.a + (s.a &&& s.b ^^^ s.a &&& s.c ^^^ s.b &&& s.c)
def round (s : Hs) (k w : UInt32) : Hs := ⟨roundP s k w + roundQ s, s.a, s.b, s.c, s.d + roundP s k w, s.e, s.f, s.g⟩
def rounds (W : Nat → UInt32) (s : Hs) : Nat → Hs
  | 0 => s
  | n + 1 => round (rounds W s n) (cubeT n) (W n)
/-- A word of a block. -/
def word4 (b : List UInt8) (i : Nat) : UInt32 := UInt32.ofNat ((b.getD (4 * i) 0).toNat * 16777216 + (b.getD (4 * i + 1) 0).toNat * 65536 + (b.getD (4 * i + 2) 0).toNat * 256 + (b.getD (4 * i + 3) 0).toNat)
def nextW (l : List UInt32) (n : Nat) : UInt32 := l.getD (n - 16) 0 + sig0 (l.getD (n - 15) 0) + l.getD (n - 7) 0 + sig1 (l.getD (n - 2) 0)
def sched (b : List UInt8) : Nat → List UInt32
  | 0 => []
  | n + 1 => sched b n ++ [if n < 16 then word4 b n else nextW (sched b n) n]
theorem sched_len (b : List UInt8) : ∀ n, (sched b n).length = n
  | 0 => rfl
  | n + 1 => by rw [sched, List.length_append, sched_len b n]; rfl
def hsOf (a : Ws) : Hs := ⟨a.get 0, a.get 1, a.get 2, a.get 3, a.get 4, a.get 5, a.get 6, a.get 7⟩
/-- A block is put into the words. -/
def pressH (s : Hs) (b : List UInt8) : Hs :=
  let t := rounds (fun i => (sched b 64).getD i 0) s 64
  ⟨s.a + t.a, s.b + t.b, s.c + t.c, s.d + t.d, s.e + t.e, s.f + t.f, s.g + t.g, s.h + t.h⟩
def wsOf (s : Hs) : Ws := ⟨[s.a, s.b, s.c, s.d, s.e, s.f, s.g, s.h], rfl⟩
theorem hsOf_wsOf (s : Hs) : hsOf (wsOf s) = s := rfl
theorem Ws.open (a : Ws) : ∃ x0 x1 x2 x3 x4 x5 x6 x7, a.l = [x0, x1, x2, x3, x4, x5, x6, x7] := by
  obtain ⟨l, h⟩ := a
  match l, h with
  | [x0, x1, x2, x3, x4, x5, x6, x7], _ => exact ⟨_, _, _, _, _, _, _, _, rfl⟩
theorem wsOf_hsOf (a : Ws) : wsOf (hsOf a) = a := by
  obtain ⟨x0, x1, x2, x3, x4, x5, x6, x7, h⟩ := a.open
  obtain ⟨l, hl⟩ := a
  subst h
  rfl
def begH : Hs := ⟨0x6a09e667, 0xbb67ae85, 0x3c6ef372, 0xa54ff53a, 0x510e527f, 0x9b05688c, 0x1f83d9ab, 0x5be0cd19⟩
/-- Whole blocks are put in, one behind the other. -/
def pressAll : Nat → Hs → List UInt8 → Hs
  | 0, s, _ => s
  | n + 1, s, l => pressAll n (pressH s (l.take 64)) (l.drop 64)
def be8 (n : Nat) : List UInt8 := oct (UInt32.ofNat (n / 4294967296)) ++ oct (UInt32.ofNat n)
def padL (n : Nat) : List UInt8 := (128 :: List.replicate 63 0).take (64 - (n + 8) % 64) ++ be8 (8 * n)
def padded (l : List UInt8) : List UInt8 := l ++ padL l.length
def outH (s : Hs) : List UInt8 := oct s.a ++ oct s.b ++ oct s.c ++ oct s.d ++ oct s.e ++ oct s.f ++ oct s.g ++ oct s.h
/-- SHA-256. -/
def shaL (l : List UInt8) : List UInt8 := outH (pressAll ((padded l).length / 64) begH (padded l))
theorem sha_abc : shaL [97, 98, 99] = [186, 120, 22, 191, 143, 1, 207, 234, 65, 65, 64, 222, 93, 174, 34, 35, 176, 3, 97, 163, 150, 23, 122, 156, 180, 16, 255, 97, 242, 0, 21, 173] := by decide +kernel
end Go.Proofs.YtnffmgpnhlcakaaDoor
